import Derived.Test.YtmpfadapbbjbkaaGreatPgn1
set_option maxRecDepth 100000
set_option maxHeartbeats 8000000
set_option linter.all false
namespace Go.Proofs.YtmpfadapbbjbkaaGreat
open _root_.Go.Proofs.Tryz
section
open Go.RowKit
theorem PH_step (h:Pt->Int) (a b c d p:Pt):det a b c * PH h b a d p=det b a d * PH h a b c p - PH h a b c d * det b a p:=by unfold PH det;grind
theorem uP {α:Type} (n m:α->Int):∀ (L:List α),L≠[]->(∀ x∈L,0 < m x)->∃ x∈L,∀ y∈L,n y * m x<=n x * m y
 | [],h,_=>absurd rfl h
 | [x],_,_=>⟨x,by simp,λy hy=>by simp at hy;subst hy;exact Vf _⟩
 | x :: y :: L,_,hm=>by
  obtain ⟨z,hz,k⟩:=uP n m (y :: L) (by simp) (λu hu=>hm u (by simp [hu]));have pz:=hm z (by simp [hz]);have px:=hm x (by simp);by_cases g:n x * m z<=n z * m x
  ·refine ⟨z,by simp [hz],λu hu=>?_⟩;rcases Km.1 hu with rfl | hu
   ·exact g
   ·exact k u hu
  ·refine ⟨x,by simp,λu hu=>?_⟩;rcases Km.1 hu with rfl | hu
   ·exact Vf _
   ·have pu:=hm u (by simp [hu]);have k1:=k u hu
    -- n u / m u<=n z / m z < n x / m x
    have a1:n u * m z * m x<=n z * m u * m x:=Jq k1 (by omega);have a2:n z * m x * m u<=n x * m z * m u:=Jq (by omega) (by omega);have a3:m z * (n u * m x)<=m z * (n x * m u):=by
     have e1:m z * (n u * m x)=n u * m z * m x:=by grind
     have e2:m z * (n x * m u)=n x * m z * m u:=by grind
     have e3:n z * m u * m x=n z * m x * m u:=by grind
     omega
    exact QE a3 pz
theorem PH_cnr (h:Pt->Int) (a b c:Pt):PH h a b c a=0:=by unfold PH det;grind
theorem Tiles.insM_one {W H:Int} {L:List Tri3} (h:Tiles W H L) {S T:Tri3} (hS:S∈L) (hT:T∈L) {M:Int} (hM:0 < M) {p:Pt} (h1:insM M S p) (h2:hasM M T p):S=T:=
 h.same hS hT hM (Zd h1 _) (uL hM (h.pos T hT) h2)
theorem insM_cyc {M:Int} {T:Tri3} {a b c p:Pt} (hc:Cyc T a b c):insM M T p↔0 < det (sc M a) (sc M b) p/\0 < det (sc M b) (sc M c) p/\0 < det (sc M c) (sc M a) p:=by
 unfold insM;rcases hc with ⟨rfl,rfl,rfl⟩ | ⟨rfl,rfl,rfl⟩ | ⟨rfl,rfl,rfl⟩ <;> omega
theorem leave {M:Int} (hM:0 < M) {T:Tri3} {x v:Pt} (hx:hasM M T x) (hv:¬ hasT T v):∃ a b c N n,Cyc T a b c/\det a b v < 0/\0<=n/\n < N/\det (sc (M * N) a) (sc (M * N) b) ⟨(N - n) * x.x+n * (M * v.x),(N - n) * x.y+n * (M * v.y)⟩=0/\0<=det (sc (M * N) b) (sc (M * N) c) ⟨(N - n) * x.x+n * (M * v.x),(N - n) * x.y+n * (M * v.y)⟩/\0<=det (sc (M * N) c) (sc (M * N) a) ⟨(N - n) * x.x+n * (M * v.x),(N - n) * x.y+n * (M * v.y)⟩:=by
 -- the edges beyond which v lies;of these the one that is reached first
 let E:List (Pt×Pt×Pt):=[(T.A,T.B,T.C),(T.B,T.C,T.A),(T.C,T.A,T.B)].filter λe=>decide (det e.1 e.2.1 v < 0)
 have hE:E≠[]:=by
  intro he;rw [VE] at he;apply hv;have h1:=he (T.A,T.B,T.C) (by simp);have h2:=he (T.B,T.C,T.A) (by simp);have h3:=he (T.C,T.A,T.B) (by simp);simp only [Kn] at h1 h2 h3;exact ⟨by omega,by omega,by omega⟩
 have mE:∀ e,e∈E↔(e=(T.A,T.B,T.C)\/e=(T.B,T.C,T.A)\/e=(T.C,T.A,T.B))/\det e.1 e.2.1 v < 0:=by
  intro e;simp only [E,JS,Km,JB,Jj,Kn]
 have xn:∀ e∈E,0<=det (sc M e.1) (sc M e.2.1) x:=by
  intro e he;rcases ((mE e).1 he).1 with rfl | rfl | rfl
  ·exact hx.1
  ·exact hx.2.1
  ·exact hx.2.2
 have mm:∀ e∈E,0 < - (M * (M * det e.1 e.2.1 v)):=by
  intro e he;have:=JI hM (JI hM (show 0 < - det e.1 e.2.1 v by have:=((mE e).1 he).2;omega));rw [Qd,Qd] at this;exact this
 -- n / (n+m) least: n / m least: -n / m greatest
 obtain ⟨e,he,hmax⟩:=uP (λe:Pt×Pt×Pt => - det (sc M e.1) (sc M e.2.1) x) (λe => - (M * (M * det e.1 e.2.1 v))) E hE mm;have hn:=xn e he;have hm:=mm e he;have hmax:∀ f∈E,- det (sc M f.1) (sc M f.2.1) x * - (M * (M * det e.1 e.2.1 v)) <= - det (sc M e.1) (sc M e.2.1) x * - (M * (M * det f.1 f.2.1 v)):=hmax;obtain ⟨a,b,c⟩:=e;have hmax:∀ f∈E,- det (sc M f.1) (sc M f.2.1) x * - (M * (M * det a b v)) <= - det (sc M a) (sc M b) x * - (M * (M * det f.1 f.2.1 v)):=hmax;have hn:0<=det (sc M a) (sc M b) x:=hn;have hm:0 < - (M * (M * det a b v)):=hm;obtain ⟨hw,hneg⟩:=(mE _).1 he;have hc:Cyc T a b c:=by
  simp only [Ji] at hw;rcases hw with ⟨rfl,rfl,rfl⟩ | ⟨rfl,rfl,rfl⟩ | ⟨rfl,rfl,rfl⟩
  ·exact .inl ⟨rfl,rfl,rfl⟩
  ·exact .inr (.inl ⟨rfl,rfl,rfl⟩)
  ·exact .inr (.inr ⟨rfl,rfl,rfl⟩)
 obtain ⟨n,e0⟩:∃ n,n=det (sc M a) (sc M b) x:=⟨_,rfl⟩;obtain ⟨m,e1⟩:∃ m,m = - (M * (M * det a b v)):=⟨_,rfl⟩;rw [<-e0] at hn hmax;rw [<-e1] at hm hmax
 -- the value at the place along any edge
 have val:∀ p q:Pt,det (sc (M * (n+m)) p) (sc (M * (n+m)) q) ⟨(n+m - n) * x.x+n * (M * v.x),(n+m - n) * x.y+n * (M * v.y)⟩=(n+m) * (m * det (sc M p) (sc M q) x+n * (M * (M * det p q v))):=by
  intro p q;unfold det sc;grind
 have oth:∀ p q r:Pt,(p,q,r)=(T.A,T.B,T.C)\/(p,q,r)=(T.B,T.C,T.A)\/(p,q,r)=(T.C,T.A,T.B)->0<=det (sc M p) (sc M q) x->0<=m * det (sc M p) (sc M q) x+n * (M * (M * det p q v)):=by
  intro p q r hpq hx0;by_cases hs:det p q v < 0
  ·have:=hmax (p,q,r) ((mE _).2 ⟨hpq,hs⟩);have e2 : - det (sc M p) (sc M q) x * m = - (m * det (sc M p) (sc M q) x):=by grind
   have e3 : - n * - (M * (M * det p q v))=n * (M * (M * det p q v)):=by grind
   have this : - det (sc M p) (sc M q) x * m <= - n * - (M * (M * det p q v)):=this;omega
  ·have a1:=Kr (JT hm) hx0;have a2:=Kr hn (Kr (JT hM) (Kr (JT hM) (show 0<=det p q v by omega)));omega
 have hx':=(xU hc).1 hx;have hw2:(b,c,a)=(T.A,T.B,T.C)\/(b,c,a)=(T.B,T.C,T.A)\/(b,c,a)=(T.C,T.A,T.B):=by
  simp only [Ji];rcases hc with ⟨h1,h2,h3⟩ | ⟨h1,h2,h3⟩ | ⟨h1,h2,h3⟩
  ·exact .inr (.inl ⟨h2,h3,h1⟩)
  ·exact .inr (.inr ⟨h2,h3,h1⟩)
  ·exact .inl ⟨h2,h3,h1⟩
 have hw3:(c,a,b)=(T.A,T.B,T.C)\/(c,a,b)=(T.B,T.C,T.A)\/(c,a,b)=(T.C,T.A,T.B):=by
  simp only [Ji];rcases hc with ⟨h1,h2,h3⟩ | ⟨h1,h2,h3⟩ | ⟨h1,h2,h3⟩
  ·exact .inr (.inr ⟨h3,h1,h2⟩)
  ·exact .inl ⟨h3,h1,h2⟩
  ·exact .inr (.inl ⟨h3,h1,h2⟩)
 refine ⟨a,b,c,n+m,n,hc,hneg,hn,by omega,?_,?_,?_⟩
 ·rw [val,<-e0];have:M * (M * det a b v) = -m:=by omega
  rw [this,Qd,VM m n];rw [show n * m + -(n * m)=0 by omega,Jd]
 ·rw [val];exact Kr (by omega) (oth b c a hw2 hx'.2.1)
 ·rw [val];exact Kr (by omega) (oth c a b hw3 hx'.2.2)
end
end Go.Proofs.YtmpfadapbbjbkaaGreat
