/- Put together: GeoF, GeoG. -/
import Derived.Test.YtogffkimgmlilaaGreatPfb31
set_option maxRecDepth 100000
set_option maxHeartbeats 8000000
set_option linter.all false
namespace Go.Proofs.YtogffkimgmlilaaGreat
section
open Go.RowKit
structure Crs (a b l r:Pt):Prop where
 left:0 < det a b l
 right:det a b r < 0
 back:0 < det r l a
 front:0 < det l r b
theorem Crs.turn {a b l r:Pt} (h:Crs a b l r):Crs b a r l:=by
 refine ⟨?_,?_,h.front,h.back⟩
 ·have:=h.right;have:=zAd a b r;omega
 ·have:=h.left;have:=zAd a b l;omega
theorem Crs.wide {a b l r:Pt} (h:Crs a b l r):det r l a+det l r b=det a b l - det a b r∧0 < det a b l - det a b r:=by
 have:=h.left;have:=h.right;exact ⟨by unfold det;grind,by omega⟩
def ahd (a b:Pt) (e f:Pt×Pt):Prop:=det e.2 e.1 a * (det a b f.1 - det a b f.2) < det f.2 f.1 a * (det a b e.1 - det a b e.2)
theorem zIf {a b:Pt} {e f g:Pt×Pt} (he:Crs a b e.1 e.2) (hf:Crs a b f.1 f.2) (hg:Crs a b g.1 g.2) (h1:ahd a b e f) (h2:ahd a b f g):ahd a b e g:=by
 unfold ahd at *;have w1:=he.wide.2;have w2:=hf.wide.2;have w3:=hg.wide.2;generalize det a b e.1 - det a b e.2=x at *
 generalize det a b f.1 - det a b f.2=y at *
 generalize det a b g.1 - det a b g.2=z at *
 generalize det e.2 e.1 a=p at *
 generalize det f.2 f.1 a=q at *
 generalize det g.2 g.1 a=r at *
 have k1:=Int.mul_lt_mul_of_pos_right h1 w3;have k2:=Int.mul_lt_mul_of_pos_right h2 w1;have k3:(p * z) * y < (r * x) * y:=by
  have e1:p * y * z=(p * z) * y:=by grind
  have e2:q * x * z=q * z * x:=by grind
  have e3:r * y * x=(r * x) * y:=by grind
  omega
 exact Int.lt_of_mul_lt_mul_right k3 (by omega)
theorem zLl {a b:Pt} (e:Pt×Pt):¬ ahd a b e e:=by unfold ahd;omega
section
variable {W H:Int} {L:List Tri3} (h:Tiles W H L)
include h
def Bare (L:List Tri3) (a b:Pt):Prop:=∀ p,someC L p→det a b p=0→((a.x≤p.x∧p.x≤b.x)∨(b.x≤p.x∧p.x≤a.x))→((a.y≤p.y∧p.y≤b.y)∨(b.y≤p.y∧p.y≤a.y))→p=a∨p=b
omit h in
theorem Bare.turn {L:List Tri3} {a b:Pt} (hb:Bare L a b):Bare L b a:=fun p hc hz hx hy=>(hb p hc (by have:=zAd a b p;omega) (by omega) (by omega)).symm
theorem Tiles.step {a b l r v:Pt} (hB:Bare L a b) (hb:someC L b) {T:Tri3} (hT:T∈L) (hc:Cyc T l r v) (hx:Crs a b l r):v=b∨(0 < det a b v∧Crs a b v r∧ahd a b (l,r) (v,r))∨(det a b v < 0∧Crs a b l v∧ahd a b (l,r) (l,v)):=by
 have t0:=h.cyc_pos hT hc;obtain ⟨hl,hr,hbk,hfr⟩:=hx;have bT:isCnr T b→b=l∨b=r∨b=v:=fun k=>(hc.cnr_iff b).1 k;have bz:det a b b=0:=by unfold det;grind
 have nl:b≠l:=fun e=>by rw [←e] at hl;omega
 have nr:b≠r:=fun e=>by rw [←e] at hr;omega
 obtain ⟨S,hS,hbS⟩:=hb;have inT:0≤det r v b→0≤det v l b→b=v:=fun k1 k2=>by
  have hh:hasT T b:=by
   rcases hc with ⟨rfl,rfl,rfl⟩ | ⟨rfl,rfl,rfl⟩ | ⟨rfl,rfl,rfl⟩
   ·exact ⟨by omega,k1,k2⟩
   ·exact ⟨k2,by omega,k1⟩
   ·exact ⟨k1,k2,by omega⟩
  rcases bT (h.cnr_all hS hT hbS hh) with k | k | k
  ·exact absurd k nl
  ·exact absurd k nr
  ·exact k
 rcases jD3 (det a b v) 0 with hv | hv | hv
 ·by_cases kb:b=v
  ·exact .inl kb.symm
  refine .inr (.inr ⟨hv,⟨hl,hv,?_,?_⟩,?_⟩)
  ·have e:(det a b l - det a b r) * det v l a=(det a b l - det a b v) * det r l a+det a b l * det l r v:=by unfold det;grind
   have p1:0 < det a b l - det a b r:=by omega
   refine (zAi p1).1 ?_;rw [e];exact jEy (jAf (by omega) hbk) (jAf hl t0)
  ·refine jAd fun k=>kb (inT ?_ ?_)
   ·have e:det a b l * det r v b=(- det a b v) * det l r b+(- det a b r) * (- det l v b):=by unfold det;grind
    have p:0≤det a b l * det r v b:=by
     rw [e];exact jF7 (jA2 (by omega) (by omega)) (jA2 (by omega) (by omega))
    exact (zAk hl).1 p
   ·have:=zAd v l b;omega
  ·unfold ahd;have e:det v l a * (det a b l - det a b r)=det r l a * (det a b l - det a b v)+det a b l * det l r v:=by unfold det;grind
   have:=jAf hl t0;simp only;omega
 ·-- on the line
  refine .inl ?_;have w0:det r l a+det l r b=det a b l - det a b r:=by unfold det;grind
  have ex:(det a b l - det a b r) * (v.x - a.x)=(det l r v+det r l a) * (b.x - a.x):=by
   have e:(det a b l - det a b r) * (v.x - a.x) - (det l r v+det r l a) * (b.x - a.x)=(l.x - r.x) * det a b v:=by unfold det;grind
   rw [hv,jAy] at e;omega
  have ey:(det a b l - det a b r) * (v.y - a.y)=(det l r v+det r l a) * (b.y - a.y):=by
   have e:(det a b l - det a b r) * (v.y - a.y) - (det l r v+det r l a) * (b.y - a.y)=(l.y - r.y) * det a b v:=by unfold det;grind
   rw [hv,jAy] at e;omega
  have p1:0 < det a b l - det a b r:=by omega
  by_cases k:det l r v≤det l r b
  ·have btw : ∀ x y : Int, (det a b l - det a b r) * x = (det l r v + det r l a) * y → (0 ≤ y ∧ 0 ≤ x ∧ x ≤ y) ∨ (y ≤ 0 ∧ y ≤ x ∧ x ≤ 0) := by
     intro x y exy;have s0:0≤det l r v+det r l a:=by omega
     have s1:det l r v+det r l a≤det a b l - det a b r:=by omega
     generalize det a b l - det a b r=w at *
     generalize det l r v+det r l a=s at *
     rcases jDp 0 y with hy | hy
     ·refine .inl ⟨hy,?_⟩;have q1:0≤w * x:=by rw [exy];exact jA2 s0 hy
      have q2:w * x≤w * y:=by rw [exy];exact jBc s1 hy
      exact ⟨(zAk p1).1 q1,jBv q2 p1⟩
     ·refine .inr ⟨hy,?_⟩;have q1:0≤w * (-x):=by rw [jCj,exy,←jCj];exact jA2 s0 (by omega)
      have q2:w * (-x)≤w * (-y):=by rw [jCj,exy,←jCj];exact jBc s1 (by omega)
      have:=(zAk p1).1 q1;have:=jBv q2 p1;omega
   have b1:=btw _ _ ex;have b2:=btw _ _ ey;have cv:someC L v:=⟨T,hT,hc.turn.turn.cnr⟩;rcases hB v cv hv (by omega) (by omega) with rfl | rfl
   ·have:det l r v = - det r l v:=zAd r l v;omega
   ·rfl
  ·exfalso
   have k2 : b = v := inT (by
       have e:(det a b l - det a b r) * det r v b=(det l r b - det l r v) * det a b r+(det a b v) * det r l b:=by unfold det;grind
       have p:0 < (det a b l - det a b r) * det r v b:=by
        rw [e,hv,jB1,jD1];exact jCt (by omega) hr
       have:=(zAi p1).1 p;omega) (by
       have e:(det a b l - det a b r) * det v l b=(det l r v - det l r b) * det a b l+(det a b v) * det l r b:=by unfold det;grind
       have p:0 < (det a b l - det a b r) * det v l b:=by
        rw [e,hv,jB1,jD1];exact jAf (by omega) hl
       have:=(zAi p1).1 p;omega)
   rw [←k2] at k;omega
 ·by_cases kb:b=v
  ·exact .inl kb.symm
  refine .inr (.inl ⟨hv,⟨hv,hr,?_,?_⟩,?_⟩)
  ·have e:(det a b l - det a b r) * det r v a=(det a b v - det a b r) * det r l a+(- det a b r) * det l r v:=by unfold det;grind
   have p1:0 < det a b l - det a b r:=by omega
   refine (zAi p1).1 ?_;rw [e];exact jEy (jAf (by omega) hbk) (jAf (by omega) t0)
  ·refine jAd fun k=>kb (inT ?_ ?_)
   ·have:=zAd v r b;omega
   ·have e:(- det a b r) * det v l b=det a b v * det l r b+det a b l * (- det v r b):=by unfold det;grind
    have p:0≤(- det a b r) * det v l b:=by
     rw [e];exact jF7 (jA2 (by omega) (by omega)) (jA2 (by omega) (by omega))
    exact (zAk (by omega)).1 p
  ·unfold ahd;have e:det r v a * (det a b l - det a b r)=det r l a * (det a b v - det a b r)+(- det a b r) * det l r v:=by unfold det;grind
   have:=jAf (show 0 < - det a b r by omega) t0;simp only;omega
end
theorem Cyc.same {T:Tri3} {a b c b' c':Pt} (h:Cyc T a b c) (k:Cyc T a b' c') (hp:0 < Go.Proofs.YtogffkimgmlilaaGreat.det a b c):b'=b∧c'=c:=by
 obtain ⟨n1,n2,n3⟩:=zAb hp;rcases h with ⟨rfl,rfl,rfl⟩ | ⟨rfl,rfl,rfl⟩ | ⟨rfl,rfl,rfl⟩ <;> rcases k with ⟨k1,rfl,rfl⟩ | ⟨k1,rfl,rfl⟩ | ⟨k1,rfl,rfl⟩ <;> first | exact ⟨rfl,rfl⟩ | exact absurd k1 n1 | exact absurd k1 n3 | exact absurd k1.symm n1 | exact absurd k1.symm n3 | exact absurd k1 n2 | exact absurd k1.symm n2
theorem Cyc.same2 {T:Tri3} {a b c c':Pt} (h:Cyc T a b c) (k:Cyc T a b c') (hp:0 < Go.Proofs.YtogffkimgmlilaaGreat.det a b c):c'=c:=(h.same k hp).2
def Nx (L:List Tri3) (e f:Pt×Pt):Prop:=∃ T∈L,∃ v,Cyc T e.1 e.2 v∧(f=(v,e.2)∨f=(e.1,v))
def bef (L:List Tri3) (a:Pt):Option (Pt×Pt)→Pt×Pt→Prop
 | none,e=>∃ T∈L,Cyc T e.2 e.1 a
 | some p,e=>Nx L p e
def Ch (L:List Tri3) (a b:Pt):Option (Pt×Pt)→List (Pt×Pt)→Prop
 | none,[]=>(a,b)∈L.flatMap ways∨(b,a)∈L.flatMap ways
 | some e,[]=>∃ T∈L,Cyc T e.1 e.2 b
 | p,e :: P=>bef L a p e∧Ch L a b (some e) P
theorem zI9 {α:Type} {p q:α→Bool}:∀ {l:List α},(∀ x∈l,q x=true→p x=true)→(∃ x∈l,p x=true∧q x=false)→l.countP q < l.countP p
 | [],_,⟨_,h,_⟩=>by cases h
 | y :: l,h,⟨x,hx,hp,hq⟩=>by
  have le:l.countP q≤l.countP p:=List.countP_mono_left (fun z hz=>h z (jAi _ hz));rw [List.countP_cons,List.countP_cons];rcases jA1.1 hx with rfl | hx
  ·rw [hp,hq];simp;omega
  ·have ih:=zI9 (fun z hz=>h z (jAi _ hz)) ⟨x,hx,hp,hq⟩;have:=h y (by simp);cases hq':q y <;> cases hp':p y <;> simp_all <;> omega
section
variable {W H:Int} {L:List Tri3} (h:Tiles W H L)
include h
theorem Tiles.other {a b l r:Pt} (ba:inBox W H a) (bb:inBox W H b) (hx:Crs a b l r):(l,r)∈L.flatMap ways↔(r,l)∈L.flatMap ways:=by
 constructor
 ·intro hm;rcases h.rim _ hm with k | k
  ·exact k
  ·exfalso
   obtain ⟨T,hT,hw⟩:=jAh.1 hm;obtain ⟨v,hc⟩:=zBd hw;have k2:0≤det l r a:=zG6 k (h.cyc_pos hT hc) (h.cyc_box hT hc.turn.turn) ba;have:=hx.back;have:=zAd r l a;omega
 ·intro hm;rcases h.rim _ hm with k | k
  ·exact k
  ·exfalso
   obtain ⟨T,hT,hw⟩:=jAh.1 hm;obtain ⟨v,hc⟩:=zBd hw;have k2:0≤det r l b:=zG6 k (h.cyc_pos hT hc) (h.cyc_box hT hc.turn.turn) bb;have:=hx.front;have:=zAd l r b;omega
open Classical in
theorem Tiles.run {a b:Pt} (ba:inBox W H a) (bb:inBox W H b) (hB:Bare L a b) (hb:someC L b):∀ (n:Nat) (e:Pt×Pt),Crs a b e.1 e.2→e∈L.flatMap ways→(L.flatMap ways).countP (fun f=>decide (Crs a b f.1 f.2∧ahd a b e f))≤n→∃ P,Ch L a b (some e) P∧(∀ f∈P,Crs a b f.1 f.2∧ahd a b e f)∧P.Nodup:=by
 intro n;induction n with
 | zero=>
  intro e hx hm hn;obtain ⟨T,hT,hw⟩:=jAh.1 hm;obtain ⟨v,hc⟩:=zBd hw;have none:∀ f:Pt×Pt,f∈L.flatMap ways→Crs a b f.1 f.2→ahd a b e f→False:=fun f h1 h2 h3=>by
   have:=List.countP_eq_zero.1 (Nat.le_zero.1 hn) f h1;simp [h2,h3] at this
  rcases h.step hB hb hT hc hx with rfl | ⟨_,h2,h3⟩ | ⟨_,h2,h3⟩
  ·exact ⟨[],⟨T,hT,hc⟩,by simp,by simp⟩
  ·exact absurd h3 (none _ ((h.other ba bb h2).2 (mem_flat hT hc.turn.way)) h2)
  ·exact absurd h3 (none _ ((h.other ba bb h2).2 (mem_flat hT hc.turn.turn.way)) h2)
 | succ n ih=>
  intro e hx hm hn;obtain ⟨T,hT,hw⟩:=jAh.1 hm;obtain ⟨v,hc⟩:=zBd hw;have go:∀ f:Pt×Pt,(f.2,f.1)∈L.flatMap ways→Crs a b f.1 f.2→ahd a b e f→Nx L e f→∃ P,Ch L a b (some e) P∧(∀ f∈P,Crs a b f.1 f.2∧ahd a b e f)∧P.Nodup:=fun f h1 h2 h3 h4=>by
   have hm2:=(h.other ba bb h2).2 h1;obtain ⟨P,c,o,d⟩:=ih f h2 hm2 (by
    have:=zI9 (l:=L.flatMap ways) (q:=fun g=>decide (Crs a b g.1 g.2∧ahd a b f g)) (p:=fun g=>decide (Crs a b g.1 g.2∧ahd a b e g)) (fun g _ hg=>by
     simp only [jA4] at hg ⊢;exact ⟨hg.1,zIf hx h2 hg.1 h3 hg.2⟩) ⟨f,hm2,by simp only [jA4];exact ⟨h2,h3⟩,by simp only [jC3];exact fun k=>zLl f k.2⟩
    omega)
   refine ⟨f :: P,⟨h4,c⟩,fun g hg=>?_,jAu.2 ⟨fun hg=>zLl f (o f hg).2,d⟩⟩;rcases jA1.1 hg with rfl | hg
   ·exact ⟨h2,h3⟩
   ·exact ⟨(o g hg).1,zIf hx h2 (o g hg).1 h3 (o g hg).2⟩
  rcases h.step hB hb hT hc hx with rfl | ⟨_,h2,h3⟩ | ⟨_,h2,h3⟩
  ·exact ⟨[],⟨T,hT,hc⟩,by simp,by simp⟩
  ·exact go (v,e.2) (mem_flat hT hc.turn.way) h2 h3 ⟨T,hT,v,hc,.inl rfl⟩
  ·exact go (e.1,v) (mem_flat hT hc.turn.turn.way) h2 h3 ⟨T,hT,v,hc,.inr rfl⟩
theorem Tiles.cone_one {a b r l x y:Pt} {T T0:Tri3} (hT:T∈L) (h0:T0∈L) (c:Cyc T a r l) (c0:Cyc T0 a x y) (p1:0 < det a r b) (p2:0 < det l a b) (q1:0≤det a x b) (q2:0≤det y a b):T=T0:=by
 have t1:=h.cyc_pos hT c;have t0:=h.cyc_pos h0 c0;obtain ⟨u,eu⟩:∃ u:Pt,u=⟨x.x+y.x - 2 * a.x,x.y+y.y - 2 * a.y⟩:=⟨_,rfl⟩;have eux:u.x=x.x+y.x - 2 * a.x:=by rw [eu]
 have euy:u.y=x.y+y.y - 2 * a.y:=by rw [eu]
 obtain ⟨s,es⟩:∃ s:Int,s=1+(crd a r u).natAbs+(crd l a u).natAbs:=⟨_,rfl⟩;have s0:0 < s:=by omega
 obtain ⟨v,ev⟩:∃ v:Pt,v=⟨s * (b.x - a.x)+u.x,s * (b.y - a.y)+u.y⟩:=⟨_,rfl⟩;have evx:v.x=s * (b.x - a.x)+u.x:=by rw [ev]
 have evy:v.y=s * (b.y - a.y)+u.y:=by rw [ev]
 have zz:∀ m n:Pt,det (sc 1 m) (sc 1 n) a=det m n a:=fun m n=>by rw [zGq,zGq]
 have z1:∀ m:Pt,det a m a=0:=fun m=>by unfold det;grind
 have z2:∀ m:Pt,det m a a=0:=fun m=>by unfold det;grind
 refine h.same hT h0 (M:=1) (by omega) (p:=a) (v:=v) (c.near ?_) (c0.near ?_)
 ·unfold near3;rw [zz,zz,zz,z1,z2];refine ⟨.inr ⟨rfl,?_⟩,.inl ?_,.inr ⟨rfl,?_⟩⟩
  ·have e:crd a r v=s * det a r b+crd a r u:=by unfold crd det;rw [evx,evy];grind
   have:s * 1≤s * det a r b:=jBs (by omega) (by omega);omega
  ·have:=zAh a r l;omega
  ·have e:crd l a v=s * det l a b+crd l a u:=by unfold crd det;rw [evx,evy];grind
   have:s * 1≤s * det l a b:=jBs (by omega) (by omega);omega
 ·unfold near3;rw [zz,zz,zz,z1,z2];refine ⟨.inr ⟨rfl,?_⟩,.inl ?_,.inr ⟨rfl,?_⟩⟩
  ·have e:crd a x v=s * det a x b+det a x y:=by unfold crd det;rw [evx,evy,eux,euy];grind
   have:=jA2 (jAn s0) q1;omega
  ·have:=zAh a x y;omega
  ·have e:crd y a v=s * det y a b+det a x y:=by unfold crd det;rw [evx,evy,eux,euy];grind
   have:=jA2 (jAn s0) q2;omega
theorem Tiles.start {a b x y:Pt} (hab:a≠b) (hB:Bare L a b) (hb:someC L b) {T:Tri3} (hT:T∈L) (c:Cyc T a x y) (q1:0≤det a x b) (q2:0≤det y a b):(x=b∨y=b)∨Crs a b y x:=by
 have t0:=h.cyc_pos hT c;obtain ⟨n1,n2,n3⟩:=zAb t0;obtain ⟨S,hS,hbS⟩:=hb;by_cases k:0≤det x y b
 ·have hh : hasT T b := by
    rcases c with ⟨rfl,rfl,rfl⟩ | ⟨rfl,rfl,rfl⟩ | ⟨rfl,rfl,rfl⟩
    ·exact ⟨q1,k,q2⟩
    ·exact ⟨q2,q1,k⟩
    ·exact ⟨k,q2,q1⟩
  rcases (c.cnr_iff b).1 (h.cnr_all hS hT hbS hh) with e | e | e
  ·exact absurd e.symm hab
  ·exact .inl (.inl e.symm)
  ·exact .inl (.inr e.symm)
 ·have btw : ∀ (m : Int) (p q : Int), det a x y < m → det a x y * p = m * q → (0 ≤ p ∧ 0 ≤ q ∧ q ≤ p) ∨ (p ≤ 0 ∧ p ≤ q ∧ q ≤ 0) := by
    intro m p q hm e;generalize det a x y=w at *
    rcases jDp 0 q with hq | hq
    ·have k1:w * q≤w * p:=by rw [e];exact jBc (by omega) hq
     have:=jBv k1 t0;omega
    ·have k1:w * (-q)≤w * (-p):=by rw [jCj,jCj,e,←jCj,←jCj];exact jBc (by omega) (by omega)
     have:=jBv k1 t0;omega
  have sum:det x y b=det a x y - det a x b - det y a b:=by unfold det;grind
  rcases jBo q1 with p1 | p1
  ·rcases jBo q2 with p2 | p2
   ·refine .inr ⟨?_,?_,?_,?_⟩
    ·have:=zAh a b y;have:=zAh b y a;omega
    ·have e:det a b x = - det a x b:=by unfold det;grind
     omega
    ·have:=zAh a x y;omega
    ·have:=zAd x y b;omega
   ·-- y on the line
    have ex:det a x y * (b.x - a.x)=det a x b * (y.x - a.x):=by
     have e:det a x y * (b.x - a.x) - det a x b * (y.x - a.x)=det y a b * (x.x - a.x):=by unfold det;grind
     rw [←p2,jB1] at e;omega
    have ey:det a x y * (b.y - a.y)=det a x b * (y.y - a.y):=by
     have e:det a x y * (b.y - a.y) - det a x b * (y.y - a.y)=det y a b * (x.y - a.y):=by unfold det;grind
     rw [←p2,jB1] at e;omega
    have b1:=btw _ _ _ (by omega) ex;have b2:=btw _ _ _ (by omega) ey;have dz:det a b y=0:=by have:=zAh a b y;have:=zAh b y a;omega
    rcases hB y ⟨T,hT,c.turn.turn.cnr⟩ dz (by omega) (by omega) with e | e
    ·exact absurd e n3
    ·exact .inl (.inr e)
  ·-- x on the line
   have ex:det a x y * (b.x - a.x)=det y a b * (x.x - a.x):=by
    have e:det a x y * (b.x - a.x) - det y a b * (x.x - a.x)=det a x b * (y.x - a.x):=by unfold det;grind
    rw [←p1,jB1] at e;omega
   have ey:det a x y * (b.y - a.y)=det y a b * (x.y - a.y):=by
    have e:det a x y * (b.y - a.y) - det y a b * (x.y - a.y)=det a x b * (y.y - a.y):=by unfold det;grind
    rw [←p1,jB1] at e;omega
   have b1:=btw _ _ _ (by omega) ex;have b2:=btw _ _ _ (by omega) ey;have dz:det a b x=0:=by
    have e:det a b x = - det a x b:=by unfold det;grind
    omega
   rcases hB x ⟨T,hT,c.turn.cnr⟩ dz (by omega) (by omega) with e | e
   ·exact absurd e.symm n1
   ·exact .inl (.inl e)
end
section
variable {W H:Int} {L:List Tri3} (h:Tiles W H L)
include h
open Classical in
theorem Tiles.all_in {a b:Pt} (ba:inBox W H a) (bb:inBox W H b) (hB:Bare L a b) (ha:someC L a) (_hb:someC L b) {P:List (Pt×Pt)} (hP:Ch L a b none P) (hcr:∀ e∈P,Crs a b e.1 e.2) {x y:Pt} {T0:Tri3} (h0:T0∈L) (c0:Cyc T0 a x y) (q1:0≤det a x b) (q2:0≤det y a b) (hfst:Crs a b y x→∃ P',P=(y,x) :: P'):∀ (n:Nat) (e:Pt×Pt),Crs a b e.1 e.2→e∈L.flatMap ways→(L.flatMap ways).countP (fun f=>decide (Crs a b f.1 f.2∧ahd a b f e))≤n→e∈P:=by
 have nxt:∀ (P:List (Pt×Pt)) (o:Option (Pt×Pt)),Ch L a b o P→(∀ e∈P,Crs a b e.1 e.2)→∀ p∈P,(∃ T∈L,Cyc T p.1 p.2 b)∨∃ q∈P,Nx L p q:=by
  intro P;induction P with
  | nil=>intro _ _ _ p hp;cases hp
  | cons e P ih=>
   intro o hc hx p hp;have hc':Ch L a b (some e) P:=by cases o <;> exact hc.2
   rcases jA1.1 hp with rfl | hp
   ·cases P with
    | nil=>exact .inl hc'
    | cons q P=>exact .inr ⟨q,by simp,hc'.1⟩
   ·rcases ih (some e) hc' (fun g hg=>hx g (jAi _ hg)) p hp with k | ⟨q,hq,k⟩
    ·exact .inl k
    ·exact .inr ⟨q,jAi _ hq,k⟩
 have back:∀ e:Pt×Pt,Crs a b e.1 e.2→e∈L.flatMap ways→(∀ p:Pt×Pt,Crs a b p.1 p.2→p∈L.flatMap ways→ahd a b p e→p∈P)→e∈P:=by
  intro e hx hm ih;obtain ⟨T,hT,hw⟩:=jAh.1 ((h.other ba bb hx).1 hm);obtain ⟨u,hc⟩:=zBd hw;have t0:=h.cyc_pos hT hc
  -- the order,the other way round
  have rev:∀ p:Pt×Pt,Crs a b p.1 p.2→ahd b a (e.2,e.1) (p.2,p.1)→ahd a b p e:=fun p hp k=>by
   unfold ahd at *;have w1:=hx.wide;have w2:=hp.wide;have s1:=zAd a b e.1;have s2:=zAd a b e.2;have s3:=zAd a b p.1;have s4:=zAd a b p.2;simp only at k;rw [s1,s2,s3,s4] at k;have e1:det e.2 e.1 a=(det a b e.1 - det a b e.2) - det e.1 e.2 b:=by omega
   have e2:det p.2 p.1 a=(det a b p.1 - det a b p.2) - det p.1 p.2 b:=by omega
   have e3 : -det a b p.2 - -det a b p.1=det a b p.1 - det a b p.2:=by omega
   have e4 : -det a b e.2 - -det a b e.1=det a b e.1 - det a b e.2:=by omega
   rw [e3,e4] at k;rw [e1,e2];generalize det a b p.1 - det a b p.2=y at *
   generalize det a b e.1 - det a b e.2=z at *
   have e5:=jD2 y z;rw [jE7,jE7];omega
  -- one that is ahead of e,and e behind it
  have go:∀ p:Pt×Pt,Crs a b p.1 p.2→ahd a b p e→(∃ T∈L,∃ v,Cyc T p.1 p.2 v∧(e=(v,p.2)∨e=(p.1,v)))→e∈P:=by
   rintro p hp ha ⟨T,hT,v,hcp,he⟩;have hmp:p∈L.flatMap ways:=mem_flat hT hcp.way;have tp:=h.cyc_pos hT hcp;have hv:det a b v≠0:=by
    rcases he with he | he
    ·have:=hx.left;rw [he] at this;simp only at this;omega
    ·have:=hx.right;rw [he] at this;simp only at this;omega
   rcases nxt P none hP hcr p (ih p hp hmp ha) with ⟨R,hR,hcR⟩ | ⟨q,hq,R,hR,v',hcR,hv'⟩
   ·exfalso
    have e1:R=T:=zBu h.once hR hT hcR.way hcp.way;rw [e1] at hcR;have:b=v:=hcp.same2 hcR tp;apply hv;rw [←this];unfold det;grind
   ·have e1:R=T:=zBu h.once hR hT hcR.way hcp.way;rw [e1] at hcR;have e2:v'=v:=hcp.same2 hcR tp;rw [e2] at hv';have hxq:=hcr q hq;have:q=e:=by
     have l1:=hxq.left;have r1:=hxq.right;have l2:=hx.left;have r2:=hx.right;rcases he with he | he <;> rcases hv' with hv' | hv'
     ·rw [he,hv']
     ·rw [he] at l2;rw [hv'] at r1;simp only at l2 r1;omega
     ·rw [he] at r2;rw [hv'] at l1;simp only at r2 l1;omega
     ·rw [he,hv']
    rw [←this];exact hq
  rcases h.step hB.turn ha hT hc hx.turn with rfl | ⟨_,h2,h3⟩ | ⟨_,h2,h3⟩
  ·-- the first one
   have c1:=hc.turn.turn;have k1:=hx.left;have k2:=hx.right;have p1:0 < det u e.2 b:=by
    have e1:det u e.2 b = - det u b e.2:=by unfold det;grind
    omega
   have p2:0 < det e.1 u b:=by have:=zAh u b e.1;have:=zAh b e.1 u;omega
   have eT:=h.cone_one hT h0 c1 c0 p1 p2 q1 q2;rw [←eT] at c0;obtain ⟨e1,e2⟩:=c1.same c0 (by have:=h.cyc_pos hT c1;exact this);obtain ⟨P',hP'⟩:=hfst (by rw [e1,e2];exact hx);rw [hP',e1,e2];exact jAo
  ·-- u on the right: (e.1,u)
   exact go (e.1,u) h2.turn (rev (e.1,u) h2.turn h3) ⟨T,hT,e.2,hc.turn,.inr rfl⟩
  ·exact go (u,e.2) h2.turn (rev (u,e.2) h2.turn h3) ⟨T,hT,e.1,hc.turn.turn,.inl rfl⟩
 intro n;induction n with
 | zero=>
  intro e hx hm hn;refine back e hx hm fun p hp hmp k=>?_;have:=List.countP_eq_zero.1 (Nat.le_zero.1 hn) p hmp;simp [hp,k] at this
 | succ n ih=>
  intro e hx hm hn;refine back e hx hm fun p hp hmp k=>ih p hp hmp ?_;have:=zI9 (l:=L.flatMap ways) (q:=fun g=>decide (Crs a b g.1 g.2∧ahd a b g p)) (p:=fun g=>decide (Crs a b g.1 g.2∧ahd a b g e)) (fun g _ hg=>by
   simp only [jA4] at hg ⊢;exact ⟨hg.1,zIf hg.1 hp hx hg.2 k⟩) ⟨p,hmp,by simp only [jA4];exact ⟨hp,k⟩,by simp only [jC3];exact fun k=>zLl p k.2⟩
  omega
theorem Tiles.channel (hW:0 < W) (hH:0 < H) {a b:Pt} (hab:a≠b) (hB:Bare L a b) (ha:someC L a) (hb:someC L b):∃ P,Ch L a b none P∧(∀ e∈P,Crs a b e.1 e.2)∧P.Nodup∧∀ e:Pt×Pt,Crs a b e.1 e.2→e∈L.flatMap ways→e∈P:=by
 have inb:∀ {p},someC L p→inBox W H p:=fun {p} ⟨T,hT,hc⟩=>by
  obtain ⟨y,z,k⟩:=zCf hc;exact h.cyc_box hT k
 have ba:=inb ha;have bb:=inb hb;obtain ⟨T0,h0,x,y,c0,q1,q2⟩:=h.cone hW hH ba bb ha;have t0:=h.cyc_pos h0 c0;rcases h.start hab hB hb h0 c0 q1 q2 with e | hx
 ·have hP : Ch L a b none [] := by
    rcases e with e | e
    ·exact .inl (by rw [←e];exact mem_flat h0 c0.way)
    ·exact .inr (by rw [←e];exact mem_flat h0 c0.turn.turn.way)
  have hn:¬ Crs a b y x:=fun k=>by
   rcases e with e | e
   ·have:=k.right;rw [e] at this;have z:det a b b=0:=by unfold det;grind
    omega
   ·have:=k.left;rw [e] at this;have z:det a b b=0:=by unfold det;grind
    omega
  exact ⟨[],hP,by simp,by simp,fun e k hm=>h.all_in ba bb hB ha hb hP (by simp) h0 c0 q1 q2 (fun k=>absurd k hn) _ e k hm (jA9 _)⟩
 ·have hm:(y,x)∈L.flatMap ways:=(h.other ba bb hx).2 (mem_flat h0 c0.turn.way);obtain ⟨P,hc,ho,hd⟩:=h.run ba bb hB hb _ (y,x) hx hm (jA9 _);have hP:Ch L a b none ((y,x) :: P):=⟨⟨T0,h0,c0.turn⟩,hc⟩;have hcr:∀ e∈(y,x) :: P,Crs a b e.1 e.2:=fun e he=>by
   rcases jA1.1 he with rfl | he
   ·exact hx
   ·exact (ho e he).1
  exact ⟨(y,x) :: P,hP,hcr,jAu.2 ⟨fun k=>zLl _ (ho _ k).2,hd⟩,fun e k hm=>h.all_in ba bb hB ha hb hP hcr h0 c0 q1 q2 (fun _=>⟨P,rfl⟩) _ e k hm (jA9 _)⟩
end
end
section
open Go.RowKit
def Pre (L:List Tri3) (a:Pt):Option (Pt×Pt)→List (Pt×Pt)→Pt×Pt→Prop
 | o,[],w=>bef L a o w
 | o,e :: A,w=>bef L a o e∧Pre L a (some e) A w
theorem zJi {L:List Tri3} {a:Pt} {o:Option (Pt×Pt)} {e w:Pt×Pt} {A:List (Pt×Pt)}:Pre L a o (e :: A) w↔bef L a o e∧Pre L a (some e) A w:=jEh
theorem zEt {L:List Tri3} {a b:Pt} {o:Option (Pt×Pt)} {e:Pt×Pt} {P:List (Pt×Pt)}:Ch L a b o (e :: P)↔bef L a o e∧Ch L a b (some e) P:=by
 cases o <;> exact jEh
theorem zDn {L:List Tri3} {a b:Pt} {w:Pt×Pt} {B:List (Pt×Pt)}:∀ {A:List (Pt×Pt)} {o:Option (Pt×Pt)},Ch L a b o (A ++ w :: B)↔Pre L a o A w∧Ch L a b (some w) B
 | [],o=>zEt
 | e :: A,o=>by
  rw [jB9,zEt,zDn (A:=A),zJi,and_assoc]
theorem zJh {L:List Tri3} {a:Pt} {p w:Pt×Pt}:∀ {A:List (Pt×Pt)} {o:Option (Pt×Pt)},Pre L a o (A ++ [p]) w↔Pre L a o A p∧Nx L p w
 | [],o=>jEh
 | e :: A,o=>by
  rw [jB9,zJi,zJi,zJh (A:=A),and_assoc]
def up (a b:Pt) (e f:Pt×Pt):Prop:=(e.2=f.2∧det a b e.1≤det a b f.1)∨(e.2≠f.2∧det a b f.2≤det a b e.2)
theorem zHz {a b l r u v:Pt} (hl:0 < det a b l) (hr:det a b r < 0) (hS:0 < det l r v) (hR:0 < det r l u) (h1:det a b u≤det a b l) (h2:det a b v≤det a b l) (h3:det a b u < det a b l∨det a b v < det a b l) (k1:det a b r≤det a b u) (k2:det a b r≤det a b v) (k3:det a b r < det a b u∨det a b r < det a b v):0 < det v l u∧0 < det u r v:=by
 have w:0 < det a b l - det a b r:=by omega
 have two:∀ {m n x y:Int},0≤m→0≤n→0 < m∨0 < n→0 < x→0 < y→0 < m * x+n * y:=by
  intro m n x y hm hn h hx hy;rcases h with h | h
  ·have:=jAf h hx;have:=jA2 hn (jAn hy);omega
  ·have:=jAf h hy;have:=jA2 hm (jAn hx);omega
 constructor
 ·refine (zAi w).1 ?_;have e:(det a b l - det a b r) * det v l u=(det a b l - det a b u) * det l r v+(det a b l - det a b v) * det r l u:=by unfold det;grind
  rw [e];exact two (by omega) (by omega) (by omega) hS hR
 ·refine (zAi w).1 ?_;have e:(det a b l - det a b r) * det u r v=(det a b u - det a b r) * det l r v+(det a b v - det a b r) * det r l u:=by unfold det;grind
  rw [e];exact two (by omega) (by omega) (by omega) hS hR
theorem four_crs {a b l r u v:Pt} (hl:0 < det a b l) (hr:det a b r < 0) (o1:0 < det v l u) (o2:0 < det u r v) (hu:0 < det a b u) (hv:det a b v < 0) (k1:0 < det r u a) (k2:0 < det l v b):Crs a b u v:=by
 refine ⟨hu,hv,?_,?_⟩
 ·refine (zAi (show 0 < det a b u - det a b r by omega)).1 ?_;have e:(det a b u - det a b r) * det v u a=(det a b u - det a b v) * det r u a+det a b u * det u r v:=by unfold det;grind
  rw [e];exact jEy (jAf (by omega) k1) (jAf hu o2)
 ·refine (zAi (show 0 < det a b l - det a b v by omega)).1 ?_;have e:(det a b l - det a b v) * det u v b=(det a b u - det a b v) * det l v b+(- det a b v) * det v l u:=by unfold det;grind
  rw [e];exact jEy (jAf (by omega) k2) (jAf (by omega) o1)
theorem four_crs2 {a b l r u v:Pt} (hl:0 < det a b l) (hr:det a b r < 0) (o1:0 < det v l u) (o2:0 < det u r v) (hu:det a b u < 0) (hv:0 < det a b v) (k1:0 < det u l a) (k2:0 < det v r b):Crs a b v u:=by
 refine ⟨hv,hu,?_,?_⟩
 ·refine (zAi (show 0 < det a b l - det a b u by omega)).1 ?_;have e:(det a b l - det a b u) * det u v a=(det a b v - det a b u) * det u l a+(- det a b u) * det v l u:=by unfold det;grind
  rw [e];exact jEy (jAf (by omega) k1) (jAf (by omega) o1)
 ·refine (zAi (show 0 < det a b v - det a b r by omega)).1 ?_;have e:(det a b v - det a b r) * det v u b=(det a b v - det a b u) * det v r b+det a b v * det u r v:=by unfold det;grind
  rw [e];exact jEy (jAf (by omega) k2) (jAf hv o2)
structure At (L:List Tri3) (w:Pt×Pt) (S R:Tri3) (u v:Pt):Prop where
 inS:S∈L
 inR:R∈L
 cS:Cyc S w.1 w.2 v
 cR:Cyc R w.2 w.1 u
section
variable {W H:Int} {L:List Tri3} (h:Tiles W H L) {a b:Pt} {w:Pt×Pt} {S R:Tri3} {u v:Pt} (hA:At L w S R u v)
include h hA
theorem At.ahead {p:Pt×Pt} (k:Nx L p w):p=(u,w.2)∨p=(w.1,u):=by
 obtain ⟨T,hT,v',hc,hw⟩:=k;rcases hw with hw | hw
 ·have e1:w.1=v':=by rw [hw]
  have e2:w.2=p.2:=by rw [hw]
  have c:=hc.turn;rw [←e1,←e2] at c;have e:T=R:=zBu h.once hT hA.inR c.way hA.cR.way;rw [e] at c;have:=hA.cR.same2 c (h.cyc_pos hA.inR hA.cR);exact .inl (jFf this e2.symm)
 ·have e1:w.1=p.1:=by rw [hw]
  have e2:w.2=v':=by rw [hw]
  have c:=hc.turn.turn;rw [←e1,←e2] at c;have e:T=R:=zBu h.once hT hA.inR c.way hA.cR.way;rw [e] at c;have:=hA.cR.same2 c (h.cyc_pos hA.inR hA.cR);exact .inr (jFf e1.symm this)
theorem At.behind {q:Pt×Pt} (k:Nx L w q):q=(v,w.2)∨q=(w.1,v):=by
 obtain ⟨T,hT,v',hc,hw⟩:=k;have e:T=S:=zBu h.once hT hA.inS hc.way hA.cS.way;rw [e] at hc;have:=hA.cS.same2 hc (h.cyc_pos hA.inS hA.cS);rw [this] at hw;exact hw
theorem At.first (k:bef L a none w):u=a:=by
 obtain ⟨T,hT,hc⟩:=k;have e:T=R:=zBu h.once hT hA.inR hc.way hA.cR.way;rw [e] at hc;exact (hA.cR.same2 hc (h.cyc_pos hA.inR hA.cR)).symm
theorem At.last (k:Ch L a b (some w) []):v=b:=by
 obtain ⟨T,hT,hc⟩:=k;have e:T=S:=zBu h.once hT hA.inS hc.way hA.cS.way;rw [e] at hc;exact (hA.cS.same2 hc (h.cyc_pos hA.inS hA.cS)).symm
omit h in
theorem At.keepS {e:Pt×Pt} (hw:Crs a b w.1 w.2) (he:Crs a b e.1 e.2) (hn:e≠w) {T:Tri3} (hm:e∈ways T):T≠S:=by
 rintro rfl;have:=hA.cS.ways.mem_iff.1 hm;simp only [jA1,jA6,jAw] at this;have l1:=hw.left;have r1:=hw.right;have l2:=he.left;have r2:=he.right;rcases this with k | k | k
 ·exact hn k
 ·rw [k] at l2;simp only at l2;omega
 ·rw [k] at r2;simp only at r2;omega
omit h in
theorem At.keepR {e:Pt×Pt} (hw:Crs a b w.1 w.2) (he:Crs a b e.1 e.2) (hn:e≠w) {T:Tri3} (hm:(e.2,e.1)∈ways T):T≠R:=by
 rintro rfl;have:=hA.cR.ways.mem_iff.1 hm;simp only [jA1,jA6,jAw,jB6] at this;have l1:=hw.left;have r1:=hw.right;have l2:=he.left;have r2:=he.right;rcases this with ⟨k,k'⟩ | ⟨k,_⟩ | ⟨_,k⟩
 ·exact hn (jFf k' k)
 ·rw [k] at r2;omega
 ·rw [k] at l2;omega
end
section
variable {W H:Int} {L L':List Tri3} (h:Tiles W H L) {a b:Pt} {w:Pt×Pt} {S R U V:Tri3} {u v:Pt} (hA:At L w S R u v) (hw:Crs a b w.1 w.2) (hk:∀ T∈L,T≠S→T≠R→T∈L')
include h hA hw hk
omit h in
theorem Nx.keep {e f:Pt×Pt} (he:Crs a b e.1 e.2) (hf:Crs a b f.1 f.2) (ne:e≠w) (nf:f≠w) (k:Nx L e f):Nx L' e f:=by
 obtain ⟨T,hT,v',hc,hv⟩:=k;refine ⟨T,hk T hT (hA.keepS hw he ne hc.way) (hA.keepR hw hf nf ?_),v',hc,hv⟩;rcases hv with rfl | rfl
 ·exact hc.turn.way
 ·exact hc.turn.turn.way
theorem first_keep {f:Pt×Pt} (hf:Crs a b f.1 f.2) (nf:f≠w) (k:bef L a none f):bef L' a none f:=by
 obtain ⟨T,hT,hc⟩:=k;refine ⟨T,hk T hT ?_ (hA.keepR hw hf nf hc.way),hc⟩;rintro rfl;have l1:=hw.left;have r1:=hw.right;have z:det a b a=0:=by unfold det;grind
 have:isCnr T a:=hc.turn.turn.cnr;rcases (hA.cS.cnr_iff a).1 this with k | k | k
 ·rw [←k,z] at l1;omega
 ·rw [←k,z] at r1;omega
 ·have:=h.cyc_pos hA.inS hA.cS;rw [←k] at this;have:=hw.back;have:=zAd w.2 w.1 a;omega
theorem last_keep {e:Pt×Pt} (he:Crs a b e.1 e.2) (ne:e≠w) (k:Ch L a b (some e) []):Ch L' a b (some e) []:=by
 obtain ⟨T,hT,hc⟩:=k;refine ⟨T,hk T hT (hA.keepS hw he ne hc.way) ?_,hc⟩;rintro rfl;have l1:=hw.left;have r1:=hw.right;have z:det a b b=0:=by unfold det;grind
 have:isCnr T b:=hc.turn.turn.cnr;rcases (hA.cR.cnr_iff b).1 this with k | k | k
 ·rw [←k,z] at r1;omega
 ·rw [←k,z] at l1;omega
 ·have:=h.cyc_pos hA.inR hA.cR;rw [←k] at this;have:=hw.front;have:=zAd w.1 w.2 b;omega
theorem zNc {o:Option (Pt×Pt)} {f:Pt×Pt} (ho:∀ e,o=some e→Crs a b e.1 e.2∧e≠w) (hf:Crs a b f.1 f.2) (nf:f≠w) (k:bef L a o f):bef L' a o f:=by
 cases o with
 | none=>exact first_keep h hA hw hk hf nf k
 | some e=>exact Nx.keep hA hw hk (ho e rfl).1 hf (ho e rfl).2 nf k
theorem zM6:∀ {A:List (Pt×Pt)} {o:Option (Pt×Pt)} {p:Pt×Pt},(∀ e,o=some e→Crs a b e.1 e.2∧e≠w)→(∀ e∈A,Crs a b e.1 e.2∧e≠w)→Crs a b p.1 p.2→p≠w→Pre L a o A p→Pre L' a o A p
 | [],_,_,ho,_,hp,np,k=>zNc h hA hw hk ho hp np k
 | e :: A,_,_,ho,hx,hp,np,k=>⟨zNc h hA hw hk ho (hx e (by simp)).1 (hx e (by simp)).2 k.1,zM6 (fun g hg=>by cases hg;exact hx e (by simp)) (fun g hg=>hx g (jAi _ hg)) hp np k.2⟩
theorem zN9:∀ {B:List (Pt×Pt)} {q:Pt×Pt},Crs a b q.1 q.2→q≠w→(∀ e∈B,Crs a b e.1 e.2∧e≠w)→Ch L a b (some q) B→Ch L' a b (some q) B
 | [],_,hq,nq,_,k=>last_keep h hA hw hk hq nq k
 | e :: B,_,hq,nq,hx,k=>⟨Nx.keep hA hw hk hq (hx e (by simp)).1 nq (hx e (by simp)).2 k.1,zN9 (hx e (by simp)).1 (hx e (by simp)).2 (fun g hg=>hx g (jAi _ hg)) k.2⟩
end
theorem Ch.flip {W H:Int} {L L':List Tri3} (h:Tiles W H L) {a b:Pt} {A B:List (Pt×Pt)} {w:Pt×Pt} (hP:Ch L a b none (A ++ w :: B)) (hx:∀ e∈A ++ w :: B,Crs a b e.1 e.2) (hd:(A ++ w :: B).Nodup) {S R U V:Tri3} {u v:Pt} (hA:At L w S R u v) (hk:∀ T∈L,T≠S→T≠R→T∈L') (hU:U∈L') (hV:V∈L') (cU:Cyc U v w.1 u) (cV:Cyc V u w.2 v) (o1:0 < det v w.1 u) (o2:0 < det u w.2 v):(∃ A0 p q B0 f,A=A0 ++ [p]∧B=q :: B0∧(f=(u,v)∨f=(v,u))∧Crs a b f.1 f.2∧Ch L' a b none (A ++ f :: B)∧f ∉ A ++ w :: B∧(up a b p f↔up a b w q)∧(up a b f q↔up a b p w))∨(¬ (0 < det a b u∧det a b v < 0∨det a b u < 0∧0 < det a b v)∧Ch L' a b none (A ++ B)):=by
 have hw:=hx w (by simp);have hxA:∀ e∈A,Crs a b e.1 e.2∧e≠w:=fun e he=>⟨hx e (jB4 _ he),fun k=>by
  rw [jAz] at hd;exact hd.2.2 e he w (by simp) k⟩
 have hxB:∀ e∈B,Crs a b e.1 e.2∧e≠w:=fun e he=>⟨hx e (by simp [he]),fun k=>by
  rw [jAz] at hd;have:=hd.2.1;rw [jAu] at this;exact this.1 (k▸he)⟩
 have za:det a b a=0:=by unfold det;grind
 have zb:det a b b=0:=by unfold det;grind
 have inw:∀ e∈A ++ w :: B,e∈L.flatMap ways:=by
  intro e he;obtain ⟨X,Y,e1⟩:=jDb he;rw [e1] at hP;have:=(zDn.1 hP).2;cases Y with
  | nil=>obtain ⟨T,hT,hc⟩:=this;exact mem_flat hT hc.way
  | cons f Y=>obtain ⟨⟨T,hT,v',hc,_⟩,_⟩:=this;exact mem_flat hT hc.way
 have n1:(u,v) ∉ A ++ w :: B:=fun k=>h.no_diag hA.inS hA.cS o1 o2 (inw _ k);have n2:(v,u) ∉ A ++ w :: B:=fun k=>h.no_diag hA.inR hA.cR o2 o1 (inw _ k);obtain ⟨hp1,hq1⟩:=zDn.1 hP;rcases List.eq_nil_or_concat A with rfl | ⟨A0,p,rfl⟩
 ·have eu:u=a:=hA.first h hp1;refine .inr ⟨by rw [eu,za];omega,?_⟩;cases B with
  | nil=>
   have ev:v=b:=hA.last h hq1;rw [eu,ev] at cU;exact .inl (mem_flat hU cU.turn.turn.way)
  | cons q B0=>
   obtain ⟨k1,k2⟩:=zEt.1 hq1;have k3:=zN9 h hA hw hk (hxB q (by simp)).1 (hxB q (by simp)).2 (fun e he=>hxB e (jAi _ he)) k2;refine zEt.2 ⟨?_,k3⟩;rw [eu] at cU cV;rcases hA.behind h k1 with rfl | rfl
   ·exact ⟨V,hV,cV.turn⟩
   ·exact ⟨U,hU,cU⟩
 ·rw [List.concat_eq_append] at *;obtain ⟨k1,k2⟩:=zJh.1 hp1;have hxp:=hxA p (by simp);have k3:=zM6 h hA hw hk (o:=none) (fun e he=>by cases he) (fun e he=>hxA e (jB4 _ he)) hxp.1 hxp.2 k1;have pl:=hxp.1.left;have pr:=hxp.1.right;have pb:=hxp.1.back;cases B with
  | nil=>
   have ev:v=b:=hA.last h hq1;refine .inr ⟨by rw [ev,zb];omega,?_⟩;rw [jAs];refine zDn.2 ⟨k3,?_⟩;rw [ev] at cU cV;rcases hA.ahead h k2 with rfl | rfl
   ·exact ⟨V,hV,cV⟩
   ·exact ⟨U,hU,cU.turn⟩
  | cons q B0=>
   obtain ⟨j1,j2⟩:=zEt.1 hq1;have hxq:=hxB q (by simp);have j3:=zN9 h hA hw hk hxq.1 hxq.2 (fun e he=>hxB e (jAi _ he)) j2;have ql:=hxq.1.left;have qr:=hxq.1.right;have qf:=hxq.1.front;have mk:∀ f,Nx L' p f→Nx L' f q→Ch L' a b none ((A0 ++ [p]) ++ f :: q :: B0):=fun f x y=>by
    rw [jAr];exact zDn.2 ⟨k3,zEt.2 ⟨x,zEt.2 ⟨y,j3⟩⟩⟩
   have mk2:Nx L' p q→Ch L' a b none ((A0 ++ [p]) ++ q :: B0):=fun x=>by
    rw [jAr];exact zDn.2 ⟨k3,zEt.2 ⟨x,j3⟩⟩
   obtain ⟨d1,d2,d3⟩:=zAb (h.cyc_pos hA.inS hA.cS);obtain ⟨d4,d5,d6⟩:=zAb (h.cyc_pos hA.inR hA.cR);rcases hA.ahead h k2 with rfl | rfl <;> rcases hA.behind h j1 with rfl | rfl <;> simp only at pl pr pb ql qr qf
   ·exact .inr ⟨by omega,mk2 ⟨V,hV,v,cV,.inl rfl⟩⟩
   ·refine .inl ⟨A0,_,_,B0,(u,v),rfl,rfl,.inl rfl,four_crs hw.left hw.right o1 o2 pl qr pb qf,mk _ ⟨V,hV,v,cV,.inr rfl⟩ ⟨U,hU,w.1,cU.turn.turn,.inl rfl⟩,n1,?_,?_⟩
    ·unfold up;simp only;constructor
     ·rintro (⟨k,_⟩ | ⟨_,k⟩);exact absurd k d2;exact .inr ⟨d2,k⟩
     ·rintro (⟨k,_⟩ | ⟨_,k⟩);exact absurd k d2;exact .inr ⟨d2,k⟩
    ·unfold up;simp
   ·refine .inl ⟨A0,_,_,B0,(v,u),rfl,rfl,.inr rfl,four_crs2 hw.left hw.right o1 o2 pr ql pb qf,mk _ ⟨U,hU,v,cU.turn,.inl rfl⟩ ⟨V,hV,w.2,cV.turn.turn,.inr rfl⟩,n2,?_,?_⟩
    ·unfold up;simp
    ·unfold up;simp only;constructor
     ·rintro (⟨k,_⟩ | ⟨_,k⟩);exact absurd k d6;exact .inr ⟨d6,k⟩
     ·rintro (⟨k,_⟩ | ⟨_,k⟩);exact absurd k d6;exact .inr ⟨d6,k⟩
   ·exact .inr ⟨by omega,mk2 ⟨U,hU,v,cU.turn,.inr rfl⟩⟩
theorem Ch.stays {W H:Int} {L:List Tri3} (h:Tiles W H L) {a b:Pt} {A B:List (Pt×Pt)} {w:Pt×Pt} (hP:Ch L a b none (A ++ w :: B)) (hx:∀ e∈A ++ w :: B,Crs a b e.1 e.2) {S R:Tri3} {u v:Pt} (hA:At L w S R u v) (ho:¬ (0 < det v w.1 u∧0 < det u w.2 v)) (hl:A=[]∨∃ A0 p,A=A0 ++ [p]∧up a b p w):∃ q B0,B=q :: B0∧up a b w q:=by
 have hw:=hx w (by simp);have za:det a b a=0:=by unfold det;grind
 have zb:det a b b=0:=by unfold det;grind
 obtain ⟨hp1,hq1⟩:=zDn.1 hP;have wl:=hw.left;have wr:=hw.right;have tS:=h.cyc_pos hA.inS hA.cS;have tR:=h.cyc_pos hA.inR hA.cR;obtain ⟨d1,d2,d3⟩:=zAb tS;obtain ⟨d4,d5,d6⟩:=zAb tR;have hu:(det a b u≤det a b w.1∧det a b w.2≤det a b u)∧(det a b u < det a b w.1∨det a b w.2 < det a b u)∧(det a b u=0∨(0 < det a b u∨det a b u < 0)):=by
  rcases hl with rfl | ⟨A0,p,rfl,hup⟩
  ·have eu:u=a:=hA.first h hp1;rw [eu,za];omega
  ·have hxp:=hx p (by simp);have pl:=hxp.left;have pr:=hxp.right;obtain ⟨_,k2⟩:=zJh.1 hp1;rcases hA.ahead h k2 with rfl | rfl <;> simp only at pl pr
   ·rcases hup with ⟨_,k⟩ | ⟨k,_⟩
    ·simp only at k;omega
    ·exact absurd rfl k
   ·rcases hup with ⟨k,_⟩ | ⟨_,k⟩
    ·exact absurd k d6
    ·simp only at k;omega
 cases B with
 | nil=>
  exfalso
  have ev:v=b:=hA.last h hq1;refine ho (zHz wl wr tS tR (by omega) (by rw [ev,zb];omega) (by rw [ev,zb];omega) (by omega) (by rw [ev,zb];omega) (by rw [ev,zb];omega))
 | cons q B0=>
  refine ⟨q,B0,rfl,jBq fun hn=>?_⟩;have hxq:=hx q (by simp);have ql:=hxq.left;have qr:=hxq.right;obtain ⟨j1,_⟩:=zEt.1 hq1;rcases hA.behind h j1 with rfl | rfl <;> simp only at ql qr
  ·have:¬ det a b w.1≤det a b v:=fun k=>hn (.inl ⟨rfl,k⟩);exact ho (zHz wl wr tS tR (by omega) (by omega) (by omega) (by omega) (by omega) (by omega))
  ·have:¬ det a b v≤det a b w.2:=fun k=>hn (.inr ⟨d2,k⟩);exact ho (zHz wl wr tS tR (by omega) (by omega) (by omega) (by omega) (by omega) (by omega))
theorem zF1 {α:Type} {w:α}:∀ {A A' B B':List α},(A ++ w :: B).Nodup→A ++ w :: B=A' ++ w :: B'→A=A'∧B=B'
 | [],[],B,B',_,h=>⟨rfl,(jCv h).2⟩
 | [],x :: A',B,B',hd,h=>by
  obtain ⟨e1,e2⟩:=jCv h;simp only [jBd,jAu] at hd;exact absurd (by rw [e2];simp:w∈B) hd.1
 | x :: A,[],B,B',hd,h=>by
  obtain ⟨e1,e2⟩:=jCv h;rw [jB9,jAu] at hd;exact absurd (by rw [e1];simp:x∈A ++ w :: B) hd.1
 | x :: A,y :: A',B,B',hd,h=>by
  obtain ⟨e1,e2⟩:=jCv h;rw [jB9,jAu] at hd;obtain ⟨k1,k2⟩:=zF1 hd.2 e2;exact ⟨by rw [e1,k1],k2⟩
def Pot (a b:Pt) (P R:List (Pt×Pt)) (n:Nat):Prop:=
 (∃ A x y B X Y Z,P=A ++ x :: y :: B∧up a b x y∧R=X ++ y :: (Y ++ x :: Z)∧(B.length+1) * P.length+X.length≤n) ∨
 (∃ p P' X Z,P=p :: P'∧R=X ++ p :: Z∧P.length * P.length+X.length≤n)
theorem zNz {a b:Pt} {P R:List (Pt×Pt)} (h:R.Perm P) (hP:P≠[]):Pot a b P R (P.length * P.length+(P.length - 1)):=by
 cases P with
 | nil=>exact absurd rfl hP
 | cons p P'=>
  obtain ⟨X,Z,e⟩:=jDb (h.mem_iff.2 (jAo (a:=p) (l:=P')));refine .inr ⟨p,P',X,Z,rfl,e,?_⟩;have:=h.length_eq;rw [e] at this;simp at this;simp;omega
theorem later {P R:List (Pt×Pt)} {y q:Pt×Pt} (h:(y :: R).Perm P) (hq:q∈P) (hn:q≠y):∃ X Y,R=X ++ q :: Y∧X.length+2≤P.length:=by
 rcases jA1.1 (h.mem_iff.2 hq) with k | k
 ·exact absurd k hn
 ·obtain ⟨X,Y,e⟩:=jDb k;refine ⟨X,Y,e,?_⟩;have:=h.length_eq;rw [e] at this;simp at this;omega
theorem pot_stay {a b:Pt} {P R:List (Pt×Pt)} {w:Pt×Pt} {n:Nat} (hd:P.Nodup) (hp:(w :: R).Perm P) (hs:∀ A B,P=A ++ w :: B→(A=[]∨∃ A0 p,A=A0 ++ [p]∧up a b p w)→∃ q B0,B=q :: B0∧up a b w q) (h:Pot a b P (w :: R) n):∃ m,n=m+1∧Pot a b P (R ++ [w]) m:=by
 rcases h with ⟨A,x,y,B,X,Y,Z,e1,hu,e2,hn⟩ | ⟨p,P',X,Z,e1,e2,hn⟩
 ·cases X with
  | nil=>
   obtain ⟨rfl,e3⟩:=jCv e2;obtain ⟨q,B0,rfl,hq⟩:=hs (A ++ [x]) B (by rw [e1];simp) (.inr ⟨A,x,rfl,hu⟩);have nq:q≠w:=fun k=>by
    rw [e1,k] at hd;have:=(jAz.1 hd).2.1;simp at this
   obtain ⟨X',Y',e4,l4⟩:=later hp (by rw [e1];simp:q∈P) nq;have e5:(B0.length+1+1) * P.length=(B0.length+1) * P.length+P.length:=jFe _ _;simp only [jAm,jCy] at hn;rw [e5] at hn;exact ⟨n - 1,by omega,.inl ⟨A ++ [x],w,q,B0,X',Y',[],by rw [e1];simp,hq,by rw [e4];simp,by omega⟩⟩
  | cons z X=>
   obtain ⟨rfl,e3⟩:=jCv e2;simp only [jAm] at hn;exact ⟨n - 1,by omega,.inl ⟨A,x,y,B,X,Y,Z ++ [w],e1,hu,by rw [e3];simp,by omega⟩⟩
 ·cases X with
  | nil=>
   obtain ⟨rfl,e3⟩:=jCv e2;obtain ⟨q,B0,rfl,hq⟩:=hs [] P' e1 (.inl rfl);have nq:q≠w:=fun k=>by
    rw [e1,k] at hd;simp at hd
   obtain ⟨X',Y',e4,l4⟩:=later hp (by rw [e1];simp:q∈P) nq;have lp:P.length=B0.length+1+1:=by rw [e1];simp
   have e5:(B0.length+1+1) * P.length=(B0.length+1) * P.length+P.length:=jFe _ _;have e6:P.length * P.length=(B0.length+1) * P.length+P.length:=by rw [←e5,←lp]
   simp only [jCy] at hn;exact ⟨n - 1,by omega,.inl ⟨[],w,q,B0,X',Y',[],e1,hq,by rw [e4];simp,by omega⟩⟩
  | cons z X=>
   obtain ⟨rfl,e3⟩:=jCv e2;simp only [jAm] at hn;exact ⟨n - 1,by omega,.inr ⟨p,P',X,Z ++ [w],e1,by rw [e3];simp,by omega⟩⟩
theorem pot_swap {a b:Pt} {R A0 B0:List (Pt×Pt)} {p w q f:Pt×Pt} {n:Nat} (hd:(A0 ++ p :: w :: q :: B0).Nodup) (hp:(w :: R).Perm (A0 ++ p :: w :: q :: B0)) (h1:up a b f q↔up a b p w) (h:Pot a b (A0 ++ p :: w :: q :: B0) (w :: R) n):∃ m,n=m+1∧Pot a b (A0 ++ p :: f :: q :: B0) (R ++ [f]) m:=by
 classical
 have hd2:=jAz.1 hd;have hd3:=hd2.2.1;simp only [jAu,jA1,jFd] at hd3;have wA:∀ e∈A0,e≠w:=fun e he=>hd2.2.2 e he w (by simp);have wB:∀ e∈B0,e≠w:=fun e he k=>hd3.2.1.2 (k▸he);obtain ⟨σ,hσ⟩:∃ σ:Pt×Pt→Pt×Pt,σ=fun e=>if e=w then f else e:=⟨_,rfl⟩
 have s1:σ w=f:=by rw [hσ];simp
 have s2:∀ e,e≠w→σ e=e:=fun e he=>by rw [hσ];simp [he]
 have s3:∀ l:List (Pt×Pt),(∀ e∈l,e≠w)→l.map σ=l:=fun l hl=>by
  have:l.map σ=l.map id:=List.map_congr_left fun e he=>s2 e (hl e he);rw [this,List.map_id]
 have sP:(A0 ++ p :: w :: q :: B0).map σ=A0 ++ p :: f :: q :: B0:=by
  rw [jBn,jAv,jAv,jAv,s1,s2 p hd3.1.1,s2 q (fun k=>hd3.2.1.1 k.symm),s3 A0 wA,s3 B0 wB]
 have sl:(A0 ++ p :: f :: q :: B0).length=(A0 ++ p :: w :: q :: B0).length:=by simp
 generalize hP:A0 ++ p :: w :: q :: B0=P at *
 rcases h with ⟨A,x,y,B,X,Y,Z,e1,hu,e2,hn⟩ | ⟨p',P',X,Z,e1,e2,hn⟩
 ·have hdx:=hd;rw [e1] at hdx;have hdx2:=(jAz.1 hdx).2.1;simp only [jAu,jA1,jFd] at hdx2;cases X with
  | nil=>
   obtain ⟨rfl,e3⟩:=jCv e2;have e4:(A0 ++ [p]) ++ w :: (q :: B0)=(A ++ [x]) ++ w :: B:=by rw [jAr,jAr];simp only [jB9,jBd];rw [hP,e1]
   obtain ⟨k1,k2⟩:=zF1 (by rw [jAr];simp only [jB9,jBd];rw [hP];exact hd) e4;obtain ⟨k3,k4⟩:=List.append_inj' k1 rfl;have k5:p=x:=(jCv k4).1;obtain ⟨X',Y',e5,l5⟩:=later hp (by rw [←hP];simp:q∈P) (fun k=>hd3.2.1.1 k.symm);have e6:(B0.length+1+1) * P.length=(B0.length+1) * P.length+P.length:=jFe _ _;rw [←k2] at hn;simp only [jAm,jCy] at hn;rw [e6] at hn;refine ⟨n - 1,by omega,.inl ⟨A0 ++ [p],f,q,B0,X',Y',[],by simp,h1.2 (by rw [k5];exact hu),by rw [e5];simp,by rw [sl];omega⟩⟩
  | cons z X=>
   obtain ⟨rfl,e3⟩:=jCv e2;have hr:w ∉ R:=fun k=>by
    have:=hp.nodup_iff.2 hd;rw [jAu] at this;exact this.1 k
   have nx:x≠w:=fun k=>hr (by rw [e3,k];simp);have ny:y≠w:=fun k=>hr (by rw [e3,k];simp);simp only [jAm] at hn;refine ⟨n - 1,by omega,.inl ⟨A.map σ,x,y,B.map σ,X,Y,Z ++ [f],?_,hu,by rw [e3];simp,by rw [sl,jCl];omega⟩⟩;rw [←sP,e1,jBn,jAv,jAv,s2 x nx,s2 y ny]
 ·cases X with
  | nil=>
   exfalso
   obtain ⟨rfl,e3⟩:=jCv e2;have e4:(A0 ++ [p]) ++ w :: (q :: B0)=[] ++ w :: P':=by rw [jAr];simp only [jB9,jBd];rw [hP,e1]
   obtain ⟨k1,_⟩:=zF1 (by rw [jAr];simp only [jB9,jBd];rw [hP];exact hd) e4;simp at k1
  | cons z X=>
   obtain ⟨rfl,e3⟩:=jCv e2;have hr:w ∉ R:=fun k=>by
    have:=hp.nodup_iff.2 hd;rw [jAu] at this;exact this.1 k
   have nx:p'≠w:=fun k=>hr (by rw [e3,k];simp);simp only [jAm] at hn;refine ⟨n - 1,by omega,.inr ⟨p',P'.map σ,X,Z ++ [f],?_,by rw [e3];simp,by rw [sl];omega⟩⟩;rw [←sP,e1,jAv,s2 p' nx]
def turns:Nat→Nat
 | 0=>0
 | k+1=>(k+1) * (k+1)+(k+1)+turns k
theorem turns_mono {k m:Nat} (h:k≤m):turns k≤turns m:=by
 induction m with
 | zero=>rw [Nat.le_zero.1 h];exact jA9 _
 | succ m ih=>
  rcases Nat.lt_or_eq_of_le h with h | h
  ·have:=ih (by omega);have e:turns (m+1)=(m+1) * (m+1)+(m+1)+turns m:=rfl;rw [e];omega
  ·rw [h];exact jA9 _
end
end Go.Proofs.YtogffkimgmlilaaGreat
