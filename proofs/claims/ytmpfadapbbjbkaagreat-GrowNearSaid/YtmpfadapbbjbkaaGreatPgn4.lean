import Derived.Test.YtmpfadapbbjbkaaGreatPgn3
set_option maxRecDepth 100000
set_option maxHeartbeats 8000000
set_option linter.all false
namespace Go.Proofs.YtmpfadapbbjbkaaGreat
open _root_.Go.Proofs.Tryz
section
open Go.RowKit
theorem tX {p q:Pt} (h:p≠q):(cmpP p q < 0/\¬ cmpP q p < 0)\/(cmpP q p < 0/\¬ cmpP p q < 0):=by
 have h0:cmpP p q≠0:=λe=>h (zY.1 e);have:=zu p q;omega
theorem YW {p q:Pt} (h:p≠q):rl q p=rl p q/\rg q p=rg p q:=by
 unfold rl rg;rcases tX h with ⟨h1,h2⟩ | ⟨h1,h2⟩
 ·simp [h1,h2]
 ·simp [h1,h2]
theorem rlg_less {p q:Pt} (h:p≠q):cmpP (rl p q) (rg p q) < 0:=by
 unfold rl rg;rcases tX h with ⟨h1,h2⟩ | ⟨h1,h2⟩
 ·simp [h1]
 ·simp [h1,h2]
def nrm (e:Pt×Pt):Wl:=⟨rl e.1 e.2,rg e.1 e.2,0⟩
theorem jE (e:Pt×Pt):nrm e=⟨e.1,e.2,0⟩\/nrm e=⟨e.2,e.1,0⟩:=by
 unfold nrm;rcases ZU e.1 e.2 with ⟨h1,h2⟩ | ⟨h1,h2⟩
 ·rw [h1,h2];exact .inl rfl
 ·rw [h1,h2];exact .inr rfl
theorem tw {p q:Pt} (h:p≠q):nrm (q,p)=nrm (p,q):=by
 unfold nrm;rw [(YW h).1,(YW h).2]
theorem Crs.apart {a b l r:Pt} (h:Crs a b l r):l≠r:=λe=>by
 have:=h.left;have:=h.right;rw [e] at *;omega
theorem ZC {a b l r:Pt} (va:vld a=true) (vb:vld b=true) (vl:vld l=true) (vr:vld r=true) (h:Crs a b l r):meetR a b l r=1:=by
 rw [kM];have e1:det l r a = - det r l a:=by unfold det;grind
 have:=h.left;have:=h.right;have:=h.back;have:=h.front;exact ⟨⟨va,vb,vl,vr⟩,by omega,by omega⟩
theorem Ys {a b c d:Pt} (h:meetR a b c d=1):Crs a b c d\/Crs a b d c:=by
 rw [kM] at h;obtain ⟨_,h1,h2⟩:=h;have e1:det d c a = - det c d a:=by unfold det;grind
 have e2:det d c b = - det c d b:=by unfold det;grind
 have e3:det d c a+det c d b=det a b c - det a b d:=by unfold det;grind
 rcases h1 with ⟨k1,k2⟩ | ⟨k1,k2⟩ <;> rcases h2 with ⟨j1,j2⟩ | ⟨j1,j2⟩
 ·omega
 ·exact .inl ⟨k1,k2,by omega,by omega⟩
 ·exact .inr ⟨k2,k1,by omega,by omega⟩
 ·omega
theorem XD {W H:Int} (hW:W < 16777216) (hH:H < 16777216) {E:Es} {L:List Tri3} (g:Good E L) (t:Tiles W H L) {p q c d:Pt} {S R:Tri3} (mS:S∈L) (mR:R∈L) (cS:Cyc S p q c) (cR:Cyc R q p d):(getE E (p,q)=some S/\getE E (q,p)=some R)/\(apx S p q=c/\apx R p q=d)/\(0 < det c p d/\0 < det d q c->(flipD E p q).1=0/\∃ U V L',Good (flipD E p q).2 L'/\Tiles W H L'/\(∀ T∈L,T≠S->T≠R->T∈L')/\U∈L'/\V∈L'/\Cyc U c p d/\Cyc V d q c)/\(¬ (0 < det c p d/\0 < det d q c)->flipD E p q=(2,E)):=by
 have h0:=g.get.2 ⟨mS,cS.way⟩;have h1:=g.get.2 ⟨mR,cR.way⟩;have p1:=t.cyc_pos mS cS;have p2:=t.cyc_pos mR cR;obtain ⟨n1,n2,n3⟩:=zP p1;obtain ⟨m1,m2,m3⟩:=zP p2;have e1:apx S p q=c:=(q9 cS n1 n2 n3).1;have e2:apx R p q=d:=(q9 cR m1 m2 m3).2;obtain ⟨_,_,_,vp,vq,vc,vd⟩:=qQ g h0 h1;rw [e1] at vc;rw [e2] at vd;have hs:=xL h0 h1;rw [e1,e2] at hs;have d1:det p d c=det c p d:=by unfold det;grind
 have o1:=qJ vp vd vc;rw [d1] at o1;have o2:=qJ vd vq vc;refine ⟨⟨h0,h1⟩,⟨e1,e2⟩,λk=>?_,λk=>?_⟩
 ·have he:=g.get_none.2 (t.no_diag mS cS k.1 k.2);have hf:=g.get_none.2 (t.no_diag mR cR k.2 k.1);obtain ⟨_,M,pM,g'⟩:=xc g h0 h1 e1 e2 (o1.2 k.1) (o2.2 k.2) he hf;rw [J1 ⟨o1.2 k.1,o2.2 k.2,he,hf⟩] at hs;rw [hs];have f:Flp (λ_ _=>False) L S R M p q c d:=⟨pM,cS,cR,⟨id,id⟩,k.1,k.2⟩;have e:mk p d c=mk c p d:=Z3 _ _ _;rw [e] at g' ⊢;obtain ⟨u,v⟩:=f.news t hW hH;refine ⟨rfl,mk c p d,mk d q c,_,g',f.tiles t hW hH,λT hT x y=>?_,by simp,by simp,u.1,v.1⟩;have:=pM.mem_iff.1 hT;simp only [Km] at this;rcases this with h | h | h
  ·exact absurd h x
  ·exact absurd h y
  ·simp [h]
 ·rw [hs,Kl (λj=>k ⟨o1.1 j.1,o2.1 j.2.1⟩)]
theorem ch_in {L:List Tri3} {a b:Pt} {P:List (Pt×Pt)} (hP:Ch L a b none P):∀ e∈P,e∈L.flatMap ways:=by
 intro e he;obtain ⟨X,Y,e1⟩:=Qr he;rw [e1] at hP;have:=(qU.1 hP).2;cases Y with
 | nil=>obtain ⟨T,hT,hc⟩:=this;exact y6 hT hc.way
 | cons f Y=>obtain ⟨⟨T,hT,v',hc,_⟩,_⟩:=this;exact y6 hT hc.way
theorem force_run {W H:Int} (hW:W < 16777216) (hH:H < 16777216) {a b:Pt} (ba:inBox W H a) (bb:inBox W H b):∀ (n:Nat) {E:Es} {L:List Tri3} {P R:List (Pt×Pt)} {m:Nat},Good E L->Tiles W H L->Ch L a b none P->(∀ e∈P,Crs a b e.1 e.2)->P.Nodup->R.Perm P->(P≠[]->Pot a b P R m/\m+1+turns (P.length - 1)<=n)->∃ L',Good (forceR a b n E (R.map nrm)).1 L'/\Tiles W H L'/\((a,b)∈L'.flatMap ways\/(b,a)∈L'.flatMap ways):=by
 have vb:∀ q,inBox W H q->vld q=true:=λq hq=>by rw [zj];unfold inBox at hq;omega
 intro n;induction n with
 | zero=>
  intro E L P R m g t hP hx hd hR hm;by_cases h0:P=[]
  ·subst h0;rw [hR.eq_nil];exact ⟨L,g,t,hP⟩
  ·have:=(hm h0).2;omega
 | succ n ih=>
  intro E L P R m g t hP hx hd hR hm;by_cases h0:P=[]
  ·subst h0;rw [hR.eq_nil];exact ⟨L,g,t,hP⟩
  obtain ⟨hpot,hfu⟩:=hm h0;clear hm;cases R with
  | nil=>exact absurd hR.symm.eq_nil h0
  | cons w R=>
   have hw:w∈P:=hR.mem_iff.1 (by simp);obtain ⟨A,B,rfl⟩:=Qr hw;have cw:=hx w hw;have iw:=ch_in hP w hw;obtain ⟨S,mS,wS⟩:=JH.1 iw;obtain ⟨v,cS⟩:=yZ (a:=w.1) (b:=w.2) wS;obtain ⟨T,mT,wT⟩:=JH.1 ((t.other ba bb cw).1 iw);obtain ⟨u,cT⟩:=yZ wT;have hA:At L w S T u v:=⟨mS,mT,cS,cT⟩;have nuv:u≠v:=λe=>by
    have p1:=t.cyc_pos mS cS;have p2:=t.cyc_pos mT cT;rw [e] at p2;have e3:det w.2 w.1 v = - det w.1 w.2 v:=by unfold det;grind
    omega
   have X : ∃ S0 R0, (getE E ((nrm w).A, (nrm w).B) = some S0 /\ getE E ((nrm w).B, (nrm w).A) = some R0) /\ ((apx S0 (nrm w).A (nrm w).B = v /\ apx R0 (nrm w).A (nrm w).B = u) \/ (apx S0 (nrm w).A (nrm w).B = u /\ apx R0 (nrm w).A (nrm w).B = v)) /\
       (0 < det v w.1 u/\0 < det u w.2 v->(flipD E (nrm w).A (nrm w).B).1=0/\∃ U V L',Good (flipD E (nrm w).A (nrm w).B).2 L'/\Tiles W H L'/\(∀ X∈L,X≠S->X≠T->X∈L')/\U∈L'/\V∈L'/\Cyc U v w.1 u/\Cyc V u w.2 v) /\
       (¬ (0 < det v w.1 u/\0 < det u w.2 v)->flipD E (nrm w).A (nrm w).B=(2,E)):=by
    rcases jE w with e | e <;> rw [e]
    ·obtain ⟨k1,k2,k3,k4⟩:=XD hW hH g t mS mT cS cT;exact ⟨S,T,k1,.inl k2,k3,k4⟩
    ·obtain ⟨k1,k2,k3,k4⟩:=XD hW hH g t mT mS cT cS;refine ⟨T,S,k1,.inr k2,λk=>?_,λk=>k4 (λj=>k ⟨j.2,j.1⟩)⟩;obtain ⟨j1,U,V,L',j2,j3,j4,j5,j6,j7,j8⟩:=k3 ⟨k.2,k.1⟩;exact ⟨j1,V,U,L',j2,j3,λX hX x y=>j4 X hX y x,j6,j5,j8,j7⟩
   obtain ⟨S0,R0,⟨h1,h2⟩,hap,hyes,hno⟩:=X;have hs:=kJ (a:=a) (b:=b) (Q:=R.map nrm) h1 h2;show ∃ L',Good (forceR a b n (fstep a b E (nrm w) (R.map nrm)).1 (fstep a b E (nrm w) (R.map nrm)).2).1 L'/\_;by_cases o:0 < det v w.1 u/\0 < det u w.2 v
   ·obtain ⟨k1,U,V,L',g',t',hk,hU,hV,cU,cV⟩:=hyes o;rw [Kl (by rw [k1];simp)] at hs;have bu:=t.cyc_box mT cT.turn.turn;have bv:=t.cyc_box mS cS.turn.turn;rcases Ch.flip t hP hx hd hA hk hU hV cU cV o.1 o.2 with ⟨A0,p,q,B0,f,rfl,rfl,hf,cf,hP',nf,_,hup⟩ | ⟨hnc,hP'⟩
    ·have hmt : meetR a b (apx S0 (nrm w).A (nrm w).B) (apx R0 (nrm w).A (nrm w).B) = 1 /\ (⟨rl (apx S0 (nrm w).A (nrm w).B) (apx R0 (nrm w).A (nrm w).B), rg (apx S0 (nrm w).A (nrm w).B) (apx R0 (nrm w).A (nrm w).B), 0⟩ : Wl) = nrm f := by
       have muv:meetR a b u v=1/\nrm (u,v)=nrm f:=by
        rcases hf with rfl | rfl
        ·exact ⟨ZC (vb _ ba) (vb _ bb) (vb _ bu) (vb _ bv) cf,rfl⟩
        ·exact ⟨kE (ZC (vb _ ba) (vb _ bb) (vb _ bv) (vb _ bu) cf),tw nuv.symm⟩
       rcases hap with ⟨x1,x2⟩ | ⟨x1,x2⟩ <;> rw [x1,x2]
       ·exact ⟨kE muv.1,(tw nuv).trans muv.2⟩
       ·exact muv
     rw [J1 hmt.1,hmt.2] at hs;rw [hs];have em:R.map nrm ++ [nrm f]=(R ++ [f]).map nrm:=by simp
     rw [em];have e1:(A0 ++ [p]) ++ w :: q :: B0=A0 ++ p :: w :: q :: B0:=by simp
     have e2:(A0 ++ [p]) ++ f :: q :: B0=A0 ++ p :: f :: q :: B0:=by simp
     rw [e1] at hd hR hpot nf hx hfu;rw [e2] at hP';obtain ⟨m',rfl,hpot'⟩:=pot_swap hd hR hup hpot;have hR':(R ++ [f]).Perm (A0 ++ p :: f :: q :: B0):=by
      have k:R.Perm (A0 ++ p :: q :: B0):=by
       have k0:(A0 ++ p :: w :: q :: B0).Perm (w :: (A0 ++ p :: q :: B0)):=by
        have:=QH (a:=w) (l₁:=A0 ++ [p]) (l₂:=q :: B0)
        simpa using this
       exact (hR.trans k0).cons_inv
      have k0:(A0 ++ p :: f :: q :: B0).Perm (f :: (A0 ++ p :: q :: B0)):=by
       have:=QH (a:=f) (l₁:=A0 ++ [p]) (l₂:=q :: B0)
       simpa using this
      exact ((List.perm_append_singleton f R).trans (k.cons f)).trans k0.symm
     have hx':∀ e∈A0 ++ p :: f :: q :: B0,Crs a b e.1 e.2:=λe he=>by
      simp only [JG,Km] at he;rcases he with he | he | he | he
      ·exact hx e (by simp [he])
      ·exact hx e (by simp [he])
      ·rw [he];exact cf
      ·exact hx e (by simp only [JG,Km];exact .inr (.inr (.inr he)))
     have hd':(A0 ++ p :: f :: q :: B0).Nodup:=by
      have k0:(A0 ++ p :: f :: q :: B0).Perm (f :: (A0 ++ p :: q :: B0)):=by
       have:=QH (a:=f) (l₁:=A0 ++ [p]) (l₂:=q :: B0)
       simpa using this
      have k1:(A0 ++ p :: w :: q :: B0).Perm (w :: (A0 ++ p :: q :: B0)):=by
       have:=QH (a:=w) (l₁:=A0 ++ [p]) (l₂:=q :: B0)
       simpa using this
      have k2:=k1.nodup_iff.1 hd;rw [JX] at k2;exact k0.nodup_iff.2 (JX.2 ⟨λk=>nf (k1.mem_iff.2 (JK _ k)),k2.2⟩)
     refine ih g' t' hP' hx' hd' hR' (m:=m') (λ_=>⟨hpot',?_⟩);have el:(A0 ++ p :: f :: q :: B0).length=(A0 ++ p :: w :: q :: B0).length:=by simp
     rw [el];omega
    ·have hmt : ¬ meetR a b (apx S0 (nrm w).A (nrm w).B) (apx R0 (nrm w).A (nrm w).B) = 1 := λk => by
       have muv:meetR a b u v=1:=by
        rcases hap with ⟨x1,x2⟩ | ⟨x1,x2⟩ <;> rw [x1,x2] at k
        ·exact kE k
        ·exact k
       exact hnc (by have:=(kM.1 muv).2.1;omega)
     rw [Kl hmt] at hs;rw [hs];have k1:(A ++ w :: B).Perm (w :: (A ++ B)):=QH;have hR':R.Perm (A ++ B):=(hR.trans k1).cons_inv;have hd':=k1.nodup_iff.1 hd;rw [JX] at hd';have hx':∀ e∈A ++ B,Crs a b e.1 e.2:=λe he=>hx e (k1.mem_iff.2 (JK _ he));refine ih g' t' hP' hx' hd'.2 hR' (m:=(A ++ B).length * (A ++ B).length+((A ++ B).length - 1)) (λhne=>⟨K3 hR' hne,?_⟩);have el:(A ++ w :: B).length=(A ++ B).length+1:=by simp;omega
     rw [el] at hfu;obtain ⟨z,hz⟩:∃ z,(A ++ B).length=z+1:=⟨(A ++ B).length - 1,by have:=VB.2 hne;omega⟩;rw [hz] at hfu ⊢;have et:turns (z+1)=(z+1) * (z+1)+(z+1)+turns z:=rfl;simp only [Nat.add_sub_cancel] at hfu ⊢;omega
   ·have hf:=hno o;rw [hf,J1 (by simp)] at hs;rw [hs];have em:R.map nrm ++ [nrm w]=(R ++ [w]).map nrm:=by simp
    simp only [em];have hst:∀ A' B',A ++ w :: B=A' ++ w :: B'->(A'=[]\/∃ A0 p,A'=A0 ++ [p]/\up a b p w)->∃ q B0,B'=q :: B0/\up a b w q:=λA' B' e hl=>by
     rw [e] at hP hx;exact Ch.stays t hP hx hA o hl
    obtain ⟨m',rfl,hpot'⟩:=pot_stay hd hR hst hpot;refine ih g t hP hx hd ((List.perm_append_singleton w R).trans hR) (m:=m') (λ_=>⟨hpot',by omega⟩)
theorem uK {α:Type} [DecidableEq α]:∀ {l m:List α},l.Nodup->(∀ x∈l,x∈m)->l.length<=m.length
 | [],_,_,_=>JZ _
 | x :: l,m,hd,h=>by
  rw [JX] at hd;have hx:=h x (by simp);have k:=uK (l:=l) (m:=m.erase x) hd.2 (λy hy=>(Vy (λe:y=x=>hd.1 (by rw [<-e];exact hy))).2 (h y (JK _ hy)));rw [List.length_erase_of_mem hx] at k;have:=VZ hx;simp;omega
theorem Yu {α β:Type} {f:α->β}:∀ {Q:List β} {P:List α},Q.Perm (P.map f)->∃ R:List α,R.Perm P/\Q=R.map f
 | [],P,h=>⟨[],by have:=h.symm.eq_nil;simp at this;rw [this],rfl⟩
 | x :: Q,P,h=>by
  obtain ⟨p,hp,rfl⟩:=JN.1 (h.mem_iff.1 (JU (a:=x) (l:=Q)));obtain ⟨A,B,rfl⟩:=Qr hp;have k:(A ++ p :: B).Perm (p :: (A ++ B)):=QH;obtain ⟨R,h1,h2⟩:=Yu (Q:=Q) (P:=A ++ B) ((h.trans (k.map f)).cons_inv);exact ⟨p :: R,(h1.cons p).trans k.symm,by rw [h2];rfl⟩
theorem cross_perm {W H:Int} (hW:W < 16777216) (hH:H < 16777216) {a b:Pt} (ba:inBox W H a) (bb:inBox W H b) {E:Es} {L:List Tri3} (g:Good E L) (t:Tiles W H L) {P:List (Pt×Pt)} (hP:Ch L a b none P) (hx:∀ e∈P,Crs a b e.1 e.2) (hd:P.Nodup) (hall:∀ e:Pt×Pt,Crs a b e.1 e.2->e∈L.flatMap ways->e∈P):(crossD a b E).Perm (P.map nrm):=by
 have vb:∀ q,inBox W H q->vld q=true:=λq hq=>by rw [zj];unfold inBox at hq;omega
 have inE:∀ {w:Pt×Pt},w∈L.flatMap ways->∃ T,(w,T)∈E:=λ{w} hw=>by
  obtain ⟨T,hT,k⟩:=JH.1 hw;exact ⟨T,g.perm.mem_iff.2 (ku.2 ⟨hT,k⟩)⟩
 have ofE:∀ {w:Pt×Pt} {T:Tri3},(w,T)∈E->w∈L.flatMap ways:=λ{w T} hw=>by
  obtain ⟨k1,k2⟩:=ku.1 (g.perm.mem_iff.1 hw);exact y6 k1 k2
 have bx:∀ {w:Pt×Pt},w∈L.flatMap ways->inBox W H w.1/\inBox W H w.2:=λ{w} hw=>by
  obtain ⟨T,hT,k⟩:=JH.1 hw;obtain ⟨c,hc⟩:=yZ (a:=w.1) (b:=w.2) k;exact ⟨t.cyc_box hT hc,t.cyc_box hT hc.turn⟩
 refine (VJ ?_ ?_).2 λx=>⟨λh=>?_,λh=>?_⟩
 ·unfold crossD;unfold List.Nodup;rw [List.pairwise_filterMap];have hk:E.Pairwise (λe f=>e.1≠f.1):=Vq.1 g.nodup;refine hk.imp λ{e f} hne x hx y hy e1=>hne ?_;split at hx
  ·split at hy
   ·simp only [Qb] at hx hy;rw [<-hx,<-hy] at e1;simp only [Wl.mk.injEq,Va] at e1;exact UL e1.1 e1.2
   ·cases hy
  ·cases hx
 ·unfold List.Nodup;rw [Vq];refine List.Pairwise.imp_of_mem (λ{e f} he hf hne h=>hne ?_) hd;have ce:=hx e he;have cf:=hx f hf;rcases jE e with k | k <;> rcases jE f with j | j <;> rw [k,j] at h <;> simp only [Wl.mk.injEq,Va] at h
  ·exact UL h.1 h.2
  ·have:=ce.left;have:=cf.right;rw [h.1] at *;omega
  ·have:=cf.left;have:=ce.right;rw [h.1] at *;omega
  ·exact UL h.2 h.1
 ·obtain ⟨h0,h1,h2,T,h3⟩:=qS h;have hw:=ofE h3;have e0:nrm (x.A,x.B)=x:=by
   unfold nrm rl rg;simp only [h1,VS];rw [<-h0]
  rcases Ys h2 with k | k
  ·exact JN.2 ⟨(x.A,x.B),hall _ k hw,e0⟩
  ·refine JN.2 ⟨(x.B,x.A),hall _ k ((t.other ba bb k).2 hw),?_⟩;rw [tw k.apart.symm,e0]
 ·obtain ⟨e,he,rfl⟩:=JN.1 h;have ce:=hx e he;have hw:=ch_in hP e he;obtain ⟨b1,b2⟩:=bx hw;have m1:=ZC (vb _ ba) (vb _ bb) (vb _ b1) (vb _ b2) ce;have hw2:((nrm e).A,(nrm e).B)∈L.flatMap ways:=by
   rcases jE e with k | k <;> rw [k]
   ·exact hw
   ·exact (t.other ba bb ce).1 hw
  obtain ⟨T,hT⟩:=inE hw2;unfold crossD;refine VP.2 ⟨_,hT,?_⟩;have k1:cmpP (nrm e).A (nrm e).B < 0:=rlg_less ce.apart;have k2:meetR a b (nrm e).A (nrm e).B=1:=Yr m1;simp only [k1,k2,decide_true,Bool.and_self,VS];rfl
theorem force_edge {W H:Int} (hW0:0 < W) (hH0:0 < H) (hW:W < 16777216) (hH:H < 16777216) {a b:Pt} (hab:a≠b) {E:Es} {L:List Tri3} (g:Good E L) (t:Tiles W H L) (hn:L.length<=94) (hB:Bare L a b) (ha:someC L a) (hb:someC L b) {Q:List Wl} (hQ:Q.Perm (crossD a b E)):∃ L',Good (forceR a b capN E Q).1 L'/\Tiles W H L'/\((a,b)∈L'.flatMap ways\/(b,a)∈L'.flatMap ways):=by
 have inb:∀ {p},someC L p->inBox W H p:=λ{p} ⟨T,hT,hc⟩=>by
  obtain ⟨y,z,k⟩:=qo hc;exact t.cyc_box hT k
 have ba:=inb ha;have bb:=inb hb;obtain ⟨P,hP,hx,hd,hall⟩:=t.channel hW0 hH0 hab hB ha hb;obtain ⟨R,hR,rfl⟩:=Yu (hQ.trans (cross_perm hW hH ba bb g t hP hx hd hall));have hlen:P.length<=141:=by
  have k:=uK (l:=P ++ P.map (λe=>(e.2,e.1))) (m:=L.flatMap ways) (by
   rw [Jb];refine ⟨hd,?_,λe he f hf k=>?_⟩
   ·unfold List.Nodup;rw [Vq];refine hd.imp λ{e f} hne h=>hne ?_;simp only [Ji] at h;exact UL h.2 h.1
   ·obtain ⟨f0,hf0,rfl⟩:=JN.1 hf;have:=(hx e he).left;have:=(hx f0 hf0).right;rw [k] at *;simp only at *;omega) (λe he=>by
   rcases JG.1 he with he | he
   ·exact ch_in hP e he
   ·obtain ⟨f,hf,rfl⟩:=JN.1 he;exact (t.other ba bb (hx f hf)).1 (ch_in hP f hf))
  have e:(L.flatMap ways).length=3 * L.length:=by
   rw [<-jO,Qq,YL]
  rw [e] at k;simp at k;omega
 refine force_run hW hH ba bb capN g t hP hx hd hR (m:=P.length * P.length+(P.length - 1)) (λhne=>⟨K3 hR hne,?_⟩);obtain ⟨z,hz⟩:∃ z,P.length=z+1:=⟨P.length - 1,by have:=VB.2 hne;omega⟩;have et:turns (z+1)=(z+1) * (z+1)+(z+1)+turns z:=rfl;have hm:turns (z+1)<=turns 141:=turns_mono (by omega);have ht:turns 141<=capN:=by decide +kernel
 rw [hz];simp only [Nat.add_sub_cancel];omega
def edgeL (L:List Tri3) (a b:Pt):Prop:=(a,b)∈L.flatMap ways\/(b,a)∈L.flatMap ways
theorem edgeL.turn {L:List Tri3} {a b:Pt} (h:edgeL L a b):edgeL L b a:=h.elim .inr .inl
theorem ud (a b q:Pt):det a b q=ff (-(b.y - a.y)) (b.x - a.x) q - ff (-(b.y - a.y)) (b.x - a.x) a:=by unfold det ff;grind
theorem Xm {T:Tri3} {x y z p:Pt} (hc:Cyc T x y z) (hp:0 < det x y z) (ho:onS p x y=true):hasT T p:=by
 obtain ⟨n1,n2,n3⟩:=zP hp;have hz:det x y p=0:=by
  rw [on_eq] at ho;unfold onR at ho;simp only [Ko,Kn] at ho;exact ho.2.2.2.1
 have k1:0<=det y z p:=by
  have:=(on_ff (-(z.y - y.y)) (z.x - y.x) n1 ho (m:=ff (-(z.y - y.y)) (z.x - y.x) y)).2 (by
   have e:=ud y z x;have:det y z x=det x y z:=zW x y z;omega) (Vf _)
  have e:=ud y z p;omega
 have k2:0<=det z x p:=by
  have:=(on_ff (-(x.y - z.y)) (x.x - z.x) n1 ho (m:=ff (-(x.y - z.y)) (x.x - z.x) x)).2 (Vf _) (by
   have e:=ud z x y;have e2:det z x y=det x y z:=by unfold det;grind
   have e3:=ud z x x;have e4:det z x x=0:=by unfold det;grind
   omega)
  have e:=ud z x p;have e3:=ud z x x;have e4:det z x x=0:=by unfold det;grind
  omega
 rcases hc with ⟨rfl,rfl,rfl⟩ | ⟨rfl,rfl,rfl⟩ | ⟨rfl,rfl,rfl⟩
 ·exact ⟨by omega,k1,k2⟩
 ·exact ⟨k2,by omega,k1⟩
 ·exact ⟨k1,k2,by omega⟩
section
variable {W H:Int} {L:List Tri3} (h:Tiles W H L)
include h
theorem Tiles.way_of {a b:Pt} (hm:(a,b)∈L.flatMap ways):∃ T∈L,∃ c,Cyc T a b c/\0 < det a b c:=by
 obtain ⟨T,hT,k⟩:=JH.1 hm;obtain ⟨c,hc⟩:=yZ k;exact ⟨T,hT,c,hc,h.cyc_pos hT hc⟩
theorem Tiles.corner_in {a b p:Pt} (he:edgeL L a b) (hp:someC L p) (ho:onS p a b=true):p=a\/p=b:=by
 have main:∀ {a b:Pt},(a,b)∈L.flatMap ways->onS p a b=true->p=a\/p=b:=by
  intro a b hm ho;obtain ⟨T,hT,c,hc,hpos⟩:=h.way_of hm;obtain ⟨S,hS,hcn⟩:=hp;rcases (hc.cnr_iff p).1 (h.cnr_all hS hT hcn (Xm hc hpos ho)) with k | k | k
  ·exact .inl k
  ·exact .inr k
  ·exfalso
   rw [on_eq] at ho;unfold onR at ho;simp only [Ko,Kn] at ho;have:=ho.2.2.2.1;rw [k] at this;omega
 rcases he with he | he
 ·exact main he ho
 ·refine (main he ?_).symm;rw [on_eq] at ho ⊢;unfold onR btw at ho ⊢;simp only [Ko,Kn] at ho ⊢;obtain ⟨v1,v2,v3,z,b1,b2⟩:=ho;have:=zV a b p;exact ⟨v1,v3,v2,by omega,by omega,by omega⟩
theorem Tiles.cross_no {a b l r:Pt} (h1:(a,b)∈L.flatMap ways) (h2:(l,r)∈L.flatMap ways) (hx:Crs a b l r):False:=by
 obtain ⟨S,hS,s,cS,pS⟩:=h.way_of h1;obtain ⟨T,hT,u,cT,pT⟩:=h.way_of h2;obtain ⟨hl,hr,hbk,hfr⟩:=hx;have nab:=(zP pS).1;have hcr:crd a b ⟨r.x - l.x,r.y - l.y⟩=det a b r - det a b l:=by unfold crd det;grind
 obtain ⟨v,v1,v2⟩:=kX (a:=a) (b:=b) (d:=l) (e:=r) nab (λk=>by rw [hcr] at k;omega);have hM:0 < det a b l - det a b r:=by omega
 have mul2:∀ {x y:Int},0 < x->0 < y->0 < x * y:=λh1 h2=>JI h1 h2;obtain ⟨M,eM⟩:∃ M,det a b l - det a b r=M:=⟨_,rfl⟩;rw [eM] at hM;obtain ⟨p,ep⟩:∃ p:Pt,p=⟨det a b l * r.x - det a b r * l.x,det a b l * r.y - det a b r * l.y⟩:=⟨_,rfl⟩;have a1:det (sc M a) (sc M b) p=0:=by rw [ep,<-eM];unfold det sc;grind
 have a2:det (sc M b) (sc M s) p=M * (det l r b * det a b s):=by rw [ep,<-eM];unfold det sc;grind
 have a3:det (sc M s) (sc M a) p=M * (det r l a * det a b s):=by rw [ep,<-eM];unfold det sc;grind
 have b1:det (sc M l) (sc M r) p=0:=by rw [ep,<-eM];unfold det sc;grind
 have b2:det (sc M r) (sc M u) p=M * (-(det a b r) * det l r u):=by rw [ep,<-eM];unfold det sc;grind
 have b3:det (sc M u) (sc M l) p=M * (det a b l * det l r u):=by rw [ep,<-eM];unfold det sc;grind
 have nS:near M S p v:=cS.near ⟨.inr ⟨a1,v1⟩,.inl (by rw [a2];exact mul2 hM (mul2 hfr pS)),.inl (by rw [a3];exact mul2 hM (mul2 hbk pS))⟩;have nT:near M T p v:=cT.near ⟨.inr ⟨b1,v2⟩,.inl (by rw [b2];exact mul2 hM (mul2 (by omega) pT)),.inl (by rw [b3];exact mul2 hM (mul2 hl pT))⟩;have e:=h.same hS hT hM nS nT;subst e;have z1:det a b a=0:=by unfold det;grind
 have z2:det a b b=0:=by unfold det;grind
 have m1:=(cS.cnr_iff l).1 cT.cnr;have m2:=(cS.cnr_iff r).1 cT.turn.cnr;rcases m1 with k | k | k
 ·rw [k] at hl;omega
 ·rw [k] at hl;omega
 ·rcases m2 with j | j | j
  ·rw [j] at hr;omega
  ·rw [j] at hr;omega
  ·rw [k] at hl;rw [j] at hr;omega
theorem Tiles.edge_box {a b:Pt} (he:edgeL L a b):(inBox W H a/\inBox W H b)/\(someC L a/\someC L b)/\a≠b:=by
 have main:∀ {a b:Pt},(a,b)∈L.flatMap ways->(inBox W H a/\inBox W H b)/\(someC L a/\someC L b)/\a≠b:=by
  intro a b hm;obtain ⟨T,hT,c,hc,hpos⟩:=h.way_of hm;exact ⟨⟨h.cyc_box hT hc,h.cyc_box hT hc.turn⟩,⟨⟨T,hT,hc.cnr⟩,T,hT,hc.turn.cnr⟩,(zP hpos).1⟩
 rcases he with he | he
 ·exact main he
 ·obtain ⟨⟨x1,x2⟩,⟨x3,x4⟩,x5⟩:=main he;exact ⟨⟨x2,x1⟩,⟨x4,x3⟩,x5.symm⟩
theorem Tiles.edges_apart (hW:W < 16777216) (hH:H < 16777216) {a b c d:Pt} (e1:edgeL L a b) (e2:edgeL L c d) (hne:¬ ((a=c/\b=d)\/(a=d/\b=c))):meetS a b c d=0:=by
 have vb:∀ q,inBox W H q->vld q=true:=λq hq=>by rw [zj];unfold inBox at hq;omega
 obtain ⟨⟨ba,bb⟩,⟨ca,cb⟩,nab⟩:=h.edge_box e1;obtain ⟨⟨bc,bd⟩,⟨cc,cd⟩,ncd⟩:=h.edge_box e2;have s:Seg2 a b c d:=⟨vb _ ba,vb _ bb,vb _ bc,vb _ bd,nab,ncd⟩;have other:∀ {l r:Pt},edgeL L l r->Crs a b l r->(l,r)∈L.flatMap ways:=λ{l r} he hx=>by
  rcases he with he | he
  ·exact he
  ·exact (h.other ba bb hx).2 he
 have ncross:∀ {l r:Pt},edgeL L l r->Crs a b l r->False:=λ{l r} he hx=>by
  rcases e1 with k | k
  ·exact h.cross_no k (other he hx) hx
  ·exact h.cross_no k ((h.other ba bb hx).1 (other he hx)) hx.turn
 have inno:∀ {p x y:Pt},edgeL L x y->someC L p->tch p x y=0:=λ{p x y} he hp=>by
  have k:=tch_bd p x y;refine QD λhn=>?_;have ho:=YR hn;rcases h.corner_in he hp ho with e | e
  ·apply hn;unfold tch;subst e;rw [kA];split <;> simp
  ·apply hn;unfold tch;subst e;rw [kA];(repeat' split) <;> simp_all
 refine QD λhn=>?_;by_cases hl:det a b c=0/\det a b d=0
 ·have hm:mil a b c d≠0:=by rw [<-yK s hl];exact hn
  rw [xz s] at hm;have hk:min (key a) (key b) < max (key c) (key d)/\min (key c) (key d) < max (key a) (key b):=by
   refine QD λk=>hm ?_;rw [Kl k]
  have hl2:=Zi s hl;have n1:=key_n s;have n2:=key_n2 s;have nk:∀ {p q:Pt},vld p=true->vld q=true->key p=key q->p=q:=λhp hq e=>yi hp hq e;have on1:∀ {p:Pt},vld p=true->det a b p=0->someC L p->¬ (key a < key p/\key p < key b\/key b < key p/\key p < key a):=λ{p} vp hz hp k=>by
   have ho:=qe vp s.va s.vb hz (by omega);rcases h.corner_in e1 hp ho with e | e <;> rw [e] at k <;> omega
  have on2:∀ {p:Pt},vld p=true->det c d p=0->someC L p->¬ (key c < key p/\key p < key d\/key d < key p/\key p < key c):=λ{p} vp hz hp k=>by
   have ho:=qe vp s.vc s.vd hz (by omega);rcases h.corner_in e2 hp ho with e | e <;> rw [e] at k <;> omega
  have q1:=on1 s.vc hl.1 cc;have q2:=on1 s.vd hl.2 cd;have q3:=on2 s.va hl2.1 ca;have q4:=on2 s.vb hl2.2 cb;have:(key a=key c/\key b=key d)\/(key a=key d/\key b=key c):=by omega
  rcases this with ⟨k1,k2⟩ | ⟨k1,k2⟩
  ·exact hne (.inl ⟨nk s.va s.vc k1,nk s.vb s.vd k2⟩)
  ·exact hne (.inr ⟨nk s.va s.vd k1,nk s.vb s.vc k2⟩)
 ·rw [vN,kF s hl] at hn;split at hn
  ·rename_i hc
   have h1:meetR a b c d=1:=by rw [kF s hl,J1 hc]
   rcases Ys h1 with k | k
   ·exact ncross e2 k
   ·exact ncross e2.turn k
  ·rw [inno e2 ca,inno e2 cb,inno e1 cc,inno e1 cd] at hn;exact hn rfl
end
open Go.Sort
section
open Go.Lib Go.ChangeShapes Go.WideShapes Go.ChangeAt
theorem kR {L:List Wl} (h:Apart L) {i j:Nat} (hi:i < L.length) (hj:j < L.length) (hij:i≠j):meetS L[i].A L[i].B L[j].A L[j].B=0:=by
 unfold Apart at h;rw [JY] at h;rcases Nat.lt_or_gt_of_ne hij with h1 | h1
 ·exact h i j hi hj h1
 ·rw [<-jW];exact h j i hj hi h1
theorem kind_own {L:List Wl} (h:Apart L) (hg:∀ x∈L,GoodW x) {x:Wl} (hx:x∈L):kindW L x.A x.B=x.K:=by
 unfold kindW;cases hf:L.find? (isW x.A x.B) with
 | none=>
  have:=QG.1 hf x hx;exact absurd (xY.2 ⟨rfl,rfl⟩) this
 | some y=>
  have hy:=Jr hf;have e:=xY.1 (VC hf);obtain ⟨i,hi,rfl⟩:=QU.1 hx;obtain ⟨j,hj,rfl⟩:=QU.1 hy;by_cases hij:i=j
  ·subst hij;rfl
  ·exfalso
   have:=kR h hj hi (Ne.symm hij);rw [e.1,e.2] at this;exact xX (hg _ (JP hi)) this
theorem add_zero {L:List Wl} {X:Wl} (h:addE L X=0):unm X=false/\clashW L X.A X.B=0:=by
 unfold addE at h;cases hu:unm X with
 | true=>rw [hu,J1 rfl] at h;cases h
 | false=>rw [hu,Kl (by simp)] at h;exact ⟨rfl,h⟩
theorem set_new {L:List Wl} (hr:Ris L) (h:Apart L) (hg:∀ x∈L,GoodW x):srt cmpW L=L/\L.any unm=false/\(¬ ∃ (i:Nat) (h:i+1 < L.length),adjB L[i] L[i+1]=true)/\¬ ∃ (k:Nat) (h:k < L.length),hitB (L.take k) L[k]=true:=by
 refine ⟨(wholeW.srt_eq (UB L) (hr.imp λh=>by omega)).symm,?_,?_,?_⟩
 ·rw [List.any_eq_false];intro x hx;rw [X5 (hg x hx)];simp
 ·rintro ⟨i,hi,e⟩;unfold adjB at e;simp only [Ko,Kn] at e;have:=kR h (show i < L.length by omega) hi (by omega);rw [e.1,e.2] at this;exact xX (hg _ (JP hi)) this
 ·rintro ⟨k,hk,e⟩;unfold hitB at e;rw [Vj] at e;obtain ⟨y,hy,hb⟩:=e;have hy2:y∈L.take k:=by
   have:=JS.1 hy;have sub:∀ (M o:List Wl) (z:Wl),z∈M.foldl (λo x=>o.filter (λy => !gone x y) ++ [x]) o->z∈o\/z∈M:=by
    intro M;induction M with
    | nil=>intro o z hz;exact .inl hz
    | cons x M ih=>
     intro o z hz;rcases ih _ z hz with h1 | h1
     ·rcases JG.1 h1 with h1 | h1
      ·exact .inl (JS.1 h1).1
      ·exact .inr (Km.2 (.inl (by simpa using h1)))
     ·exact .inr (Km.2 (.inr h1))
   rcases sub (L.take k) [] y this.1 with h1 | h1
   ·cases h1
   ·exact h1
  obtain ⟨j,hj,rfl⟩:=VQ.1 hy2;unfold bar1 at hb;simp only [Ko,Kn] at hb;exact hb.2 (kR h (by omega) hk (by omega))
theorem new_set {a:Option Addr} {c:Nat} {L:List Wl} (hL:L.length < 1000000) (hf:Flat a) (hz:a=none->L=[]) (hr:Ris L) (h:Apart L) (hg:∀ x∈L,GoodW x) (w:World) (hrow:RowAt cW 5 w a L):Calls prog 39 #[.slice a L.length c] w λe w'=>∃ sb v,e=.returned (.tuple #[pt0 sb,()])/\SetAt w' sb v L/\w.heap.size<=sb/\(∀ g,v.ownBlock=some g->w.heap.size<=g)/\Below w w w':=by
 obtain ⟨h1,h2,h3,h4⟩:=set_new hr h hg;refine (new_ok a c L hL hf hz L h1 false rfl (iff_no h3) false rfl (iff_no h4) h2 w hrow).mono ?_;rintro e w' ⟨sb,v,rfl,h1,h2,h3,h4,h5⟩;exact ⟨sb,v,rfl,⟨h1,h2.base (JZ _),h4,by omega,hr,hg⟩,h3,λg e=>(h2.lt g e).1,h5⟩
end
theorem good_mk {X:Wl} (hX:GoodW X):mkOk X.A X.B 1=true:=by
 have hab:X.A≠X.B:=λe=>by have:=hX.ab;rw [e,zY.2 rfl] at this;omega
 unfold mkOk mkK;simp [hX.va,hX.vb,hab]
theorem clash_ok {L:List Wl} {X:Wl} (hX:GoodW X) (hm:∀ x∈L,meetS x.A x.B X.A X.B=0):clashW L X.A X.B=0:=by
 obtain ⟨hA,hB⟩:=vP hX;unfold clashW;rw [hA,hB,J1 (good_mk hX)];have hk:kindW L X.A X.B=0:=by
  unfold kindW;cases hf:L.find? (isW X.A X.B) with
  | none=>rfl
  | some y=>
   exfalso
   have hy:=Jr hf;have e:=xY.1 (VC hf);have:=hm y hy;rw [e.1,e.2] at this;exact xX hX this
 rw [J1 hk,Kl];intro h;rw [Vj] at h;obtain ⟨x,hx,hb⟩:=h;unfold bar1 at hb;simp only [Ko,Kn] at hb;exact hb.2 (hm x (JS.1 hx).1)
theorem add_ok_of {L:List Wl} {X:Wl} (hX:GoodW X) (hm:∀ x∈L,meetS x.A x.B X.A X.B=0):addE L X=0:=by
 unfold addE;rw [X5 hX,Kl (by simp)];exact clash_ok hX hm
theorem addL_perm {L:List Wl} {X:Wl} (h:addE L X=0):(addL L X).Perm (X :: L):=by
 unfold addL;rw [J1 (add_zero h)];have:=QH (a:=X) (l₁:=L.take (posW L X.A X.B)) (l₂:=L.drop (posW L X.A X.B))
 rwa [Ja] at this
theorem qV {L M:List Wl} (hp:L.Perm M) (h:Apart L):Apart M:=(hp.pairwise_iff (λ{x y} e=>by rw [<-jW];exact e)).1 h
theorem Xa {I T:List Wl} (h:Apart I) (hg:∀ x∈I,GoodW x) {i:Nat} (hi:i < I.length) (hT:T.Perm (I.drop (i+1))):addE T I[i]=0/\(addL T I[i]).Perm (I.drop i):=by
 have he:addE T I[i]=0:=add_ok_of (hg _ (JP hi)) (λx hx=>by
  have hx2:=hT.mem_iff.1 hx;obtain ⟨j,hj,rfl⟩:=List.mem_drop_iff_getElem.1 hx2;exact kR h (by omega) hi (by omega))
 refine ⟨he,(addL_perm he).trans ?_⟩;rw [<-VD hi];exact hT.cons _
attribute [local go_sem] rOper rAt rUpon cell_set sg_i64 sg_u64 alloc_cell alloc_frozen
attribute [local go_sem 10000] pt_eql pt_neq wal_eql wal_neq
attribute [local irreducible] rWalk
def hitD (a b:Pt) (x:Wl):Bool:=decide (meetR a b x.A x.B≠0)
def clashD (L:List Wl) (a b:Pt):Int:=if mkOk a b 1=true then (if kindD L a b=0 then (if L.any (hitD a b)=true then 7 else 0) else 5) else 2
theorem any_next {p:Wl->Bool} {L:List Wl} {k:Nat} (hk:k < L.length) (h0:(L.take k).any p=false) (h1:p L[k]=false):(L.take (k+1)).any p=false:=by
 rw [JD hk,List.any_append,h0];simp [h1]
theorem any_at {p:Wl->Bool} {L:List Wl} {k:Nat} (hk:k < L.length) (h1:p L[k]=true):L.any p=true:=Vj.2 ⟨_,JP hk,h1⟩
theorem any_all {p:Wl->Bool} {L:List Wl} (h0:(L.take L.length).any p=false):L.any p=false:=by rwa [JM (JA _)] at h0
theorem rclash_0 (db:Nat) (L:List Wl) (a b:Pt) (ho:mkOk a b 1=false) (w:World):Calls prog 115 #[pt0 db,a,b] w (Rt w (.int .i64 (clashD L a b))):=by
 have cm:=kv a b 1;rw [ho] at cm;generalize mkW a b 1=W0 at cm
 have HV:Hi (clashD L a b=2):=hdd (by unfold clashD;rw [ho];rfl);clear ho
 go_enter func115,ntmps115
 go_wp2_with fail;refine qE2 λW1 Ba Bb hw=>?_;refine qC2 (cm _) Ba Bb hw λw2 Ba Bb hw Gx=>?_;go_wp2
 go_ret
 exact ⟨zh HV.o.symm,by have hl:=hw.size;go_grown⟩
theorem rclash_1 (db:Nat) (a0:Option Addr) (c n:Nat) (L:List Wl) (a b:Pt) (ho:mkOk a b 1=true) (hk:(kindD L a b != 0)=true) (w:World) (D:DocRd w db a0 c n L):Calls prog 115 #[pt0 db,a,b] w (Rt w (.int .i64 (clashD L a b))):=by
 have cm:=kv a b 1;rw [ho] at cm;generalize mkW a b 1=W0 at cm
 have ck:∀ W,Below w w W->Calls prog 138 #[pt0 db,a,b] W λe w'=>e=.returned (.int .i64 (kindD L a b))/\Below W W w':=λW hW=>qY db a0 c n L a b W (D.ee hW);have HV:Hi (clashD L a b=5):=hdd (by unfold clashD;rw [J1 ho,Kl (by simpa using hk)]);generalize kindD L a b=kd at *
 clear ho D
 go_enter func115,ntmps115
 go_wp2_with fail;refine qE2 λW1 Ba Bb hw=>?_;refine qC2 (cm _) Ba Bb hw λw2 Ba Bb hw Gx=>?_;go_wp2_with fail;refine zI λW3 hW=>?_;replace Ba:Box W3 w [a.x,a.y] 26:=by rw [hW];exact Ba.old _
 replace Bb:Box W3 (w+1) [b.x,b.y] 26:=by rw [hW];exact Bb.old _
 replace hw:Below w w W3:=by have hl:=hw.size;rw [hW];go_grown
 clear hW;clear Gx;refine qC2 (ck _ hw) Ba Bb hw λw4 Ba Bb hw Gx=>?_;go_wp2
 go_ret
 exact ⟨zh HV.o.symm,by have hl:=hw.size;go_grown⟩
def clashD2 (L:List Wl) (a b:Pt):Int:=if L.any (hitD a b)=true then 7 else 0
theorem rclash_2 (db:Nat) (a0:Option Addr) (c n:Nat) (L:List Wl) (a b:Pt) (ho:mkOk a b 1=true) (hk:(kindD L a b != 0)=false) (w:World) (D:DocRd w db a0 c n L):Calls prog 115 #[pt0 db,a,b] w (Rt w (.int .i64 (clashD L a b))):=by
 have cm:=kv a b 1;rw [ho] at cm;generalize mkW a b 1=W0 at cm
 have ck:∀ W,Below w w W->Calls prog 138 #[pt0 db,a,b] W λe w'=>e=.returned (.int .i64 (kindD L a b))/\Below W W w':=λW hW=>qY db a0 c n L a b W (D.ee hW);have HV:Hi (clashD L a b=clashD2 L a b):=hdd (by unfold clashD;rw [J1 ho,J1 (by simpa using hk)];rfl);have hdb:=D.box.lt;have HM:=hdd D.len;have hn:n<=1000000:=D.len▸D.le;have HD:=hdd D;generalize kindD L a b=kd at *
 clear ho D
 go_enter func115,ntmps115
 go_wp2_with fail;refine qE2 λW1 Ba Bb hw=>?_;refine qC2 (cm _) Ba Bb hw λw2 Ba Bb hw Gx=>?_;go_wp2_with fail;refine zI λW3 hW=>?_;replace Ba:Box W3 w [a.x,a.y] 26:=by rw [hW];exact Ba.old _
 replace Bb:Box W3 (w+1) [b.x,b.y] 26:=by rw [hW];exact Bb.old _
 replace hw:Below w w W3:=by have hl:=hw.size;rw [hW];go_grown
 clear hW;clear Gx;refine qC2 (ck _ hw) Ba Bb hw λw4 Ba Bb hw Gx=>?_;go_wp2_with fail;clear Gx;clear ck cm
 go_loopw [9] (λvi wr=>∃ k:Nat,k<=n/\vi=.int .i64 k/\Hi ((L.take k).any (hitD a b)=false)/\Below w w wr/\Box wr w [a.x,a.y] 26/\Box wr (w+1) [b.x,b.y] 26) (λvi _=>n - (intOf vi).toNat)
 case atStart=>exact ⟨0,JZ _,rfl,hdd rfl,hw,Ba,Bb⟩
 case round=>
  clear Ba Bb hw;obtain ⟨k,hk,rfl,HF,hwr,BA,BB⟩:=hrel;have BD:=(HD.o.ee hwr).box;by_cases hlt:k < n
  ·have hkL:k < L.length:=by rw [HM.o];exact hlt
   obtain ⟨ad,A,ea,eA,hA⟩:=(HD.o.ee hwr).row.five (j:=k) hkL;have HX:Hi (L[k]=L[k]):=hdd rfl;generalize hX:L[k]=X at hA HX
   clear HX;have HX:=hdd hX;clear hX;have c5:=uC a b X.A X.B;have HI:Hi (hitD a b X=decide (meetR a b X.A X.B≠0)):=hdd rfl;generalize meetR a b X.A X.B=z at c5 HI
   obtain ⟨s0,s1,s2,s3,s4⟩:=hA.cells;have Ht:=J3 BA.cells BB.cells BD.cells;obtain ⟨d0,d1,d2,d3⟩:=BD.f;have q0:(k:Int) < (n:Int):=by omega
   subst ea;cases ez:(z != 0) with
   | true=>
    have HE:Hi (L.any (hitD a b)=true):=hdd (any_at hkL (by rw [HX.o,HI.o];simpa using ez));clear hA HX HI;go_wp2_with fail;refine (wp_region_tail 19 (by kernel_rfl) (by kernel_rfl) (C:=λw'=>∃ p:Regrown,w'=grow (redrawn wr p.d) p.os) rgB ?_);simp only [tK1,tK0,dP1,dP0];refine wkx ?_;intro w2 hb;have hw2:=(upB hwr hb);clear s0 s1 s2 s3 s4 Ht hb d0 d1 d2 d3;go_wp2
    go_ret
    exact ⟨zh (by rw [HV.o];unfold clashD2;rw [HE.o];rfl),hw2⟩
   | false=>
    have HE:Hi ((L.take (k+1)).any (hitD a b)=false):=hdd (any_next hkL HF.o (by rw [HX.o,HI.o];simpa using ez));clear hA HX HI;go_wp2_with fail;refine (wp_region_tail 19 (by kernel_rfl) (by kernel_rfl) (C:=λw'=>∃ p:Regrown,w'=grow (redrawn wr p.d) p.os) rgB ?_);simp only [tK1,tK0,dP1,dP0];refine wkx ?_;intro w2 hb;have hw2:=(upB hwr hb);have BA2:=BA.ee hb;have BB2:=BB.ee hb;clear s0 s1 s2 s3 s4 Ht hb d0 d1 d2 d3;go_wp2
    go_roundw
    case rel=>exact ⟨k+1,hlt,by go_num,HE,hw2,BA2,BB2⟩
    case measure=>simp [intOf];omega
  ·obtain rfl:k=n:=by omega
   have HE:Hi (L.any (hitD a b)=false):=hdd (any_all (by rw [HM.o];exact HF.o));obtain ⟨d0,d1,d2,d3⟩:=BD.f;go_wp2
   go_ret
   exact ⟨zh (by rw [HV.o];unfold clashD2;rw [HE.o];rfl),hwr⟩
theorem rclash_any (db:Nat) (a0:Option Addr) (c n:Nat) (L:List Wl) (a b:Pt) (w:World) (D:DocRd w db a0 c n L):Calls prog 115 #[pt0 db,a,b] w (Rt w (.int .i64 (clashD L a b))):=by
 cases ho:mkOk a b 1 with
 | false=>exact rclash_0 db L a b ho w
 | true=>
  cases hk:(kindD L a b != 0) with
  | true=>exact rclash_1 db a0 c n L a b ho hk w D
  | false=>exact rclash_2 db a0 c n L a b ho hk w D
def addDE (L:List Wl) (X:Wl):Int:=if unm X=true then 2 else clashD L X.A X.B
def AddAt (L:List Wl) (X:Wl) (r:Int) (L':List Wl):Prop:=r=addDE L X/\((r≠0/\L'=L)\/(r=0/\∃ k,PutAt L X k/\L'=L.take k ++ X :: L.drop k))
inductive AddsOk:List Wl->List Wl->Prop where
 | nil:AddsOk [] []
 | snoc {I S S':List Wl} {x:Wl}:AddsOk I S->AddAt S x 0 S'->AddsOk (I ++ [x]) S'
theorem AddsOk.len {I S:List Wl} (h:AddsOk I S):S.length=I.length:=by
 induction h with
 | nil=>rfl
 | snoc _ ha ih=>
  obtain ⟨_,⟨h0,_⟩ | ⟨_,k,hp,rfl⟩⟩:=ha
  ·exact absurd rfl h0
  ·have:=hp.1;simp only [Kp,JV,JO,JR,Ql];omega
theorem AddsOk.sub {I S:List Wl} (h:AddsOk I S):∀ x∈S,x∈I:=by
 induction h with
 | nil=>exact λx h=>h
 | snoc _ ha ih=>
  obtain ⟨_,⟨h0,_⟩ | ⟨_,k,hp,rfl⟩⟩:=ha
  ·exact absurd rfl h0
  ·intro x hx;rcases JG.1 hx with hx | hx
   ·exact Jo _ (ih x (QT hx))
   ·rcases Km.1 hx with rfl | hx
    ·exact Jp _ JU
    ·exact Jo _ (ih x (Qc hx))
section
open Go.Lib
theorem je {p q:Wl->Bool}:∀ {L:List Wl},(∀ x∈L,p x=q x)->L.find? p=L.find? q
 | [],_=>rfl
 | x :: L,h=>by
  rw [List.find?_cons,List.find?_cons,h x JU,je λy hy=>h y (JK _ hy)]
theorem isE_lo {p q:Pt} {x:Wl} (hx:GoodW x):isE p q x=isW (lo2 p q) (hi2 p q) x:=by
 rw [Qf];simp only [isE,isW,Qs,Ko,Kn];have hab:=hx.ab;have hn:=zu p q;unfold lo2 hi2;by_cases h:cmpP q p < 0
 ·rw [J1 h,J1 h];constructor
  ·rintro (⟨e1,e2⟩ | h2)
   ·rw [e1,e2] at hab;omega
   ·exact h2
  ·exact λh2=>.inr h2
 ·rw [Kl h,Kl h];constructor
  ·rintro (h1 | ⟨e1,e2⟩)
   ·exact h1
   ·rw [e1,e2] at hab;exact absurd hab h
  ·exact λh2=>.inl h2
theorem Z5 {L:List Wl} (hg:∀ x∈L,GoodW x) (p q:Pt):kindD L p q=kindW L (lo2 p q) (hi2 p q):=by
 unfold kindD kindW;rw [je (q:=isW (lo2 p q) (hi2 p q)) λx hx=>isE_lo (hg x hx)];all_goals (cases L.find? (isW (lo2 p q) (hi2 p q)) <;> rfl)
theorem X6 {a b:Pt} {k:Int} (h:mkOk a b k=true):GoodW ⟨lo2 a b,hi2 a b,k⟩:=by
 unfold mkOk mkK at h;simp only [Ko,Qs,Kn,V8,QB] at h;obtain ⟨hk,hab,ha,hb⟩:=h;have hn:=zu a b;have h0:cmpP a b≠0:=λe=>hab (zY.1 e);unfold lo2 hi2;by_cases h:cmpP b a < 0
 ·rw [J1 h,J1 h];exact ⟨hb,ha,h,hk⟩
 ·rw [Kl h,Kl h];exact ⟨ha,hb,by show cmpP a b < 0;omega,hk⟩
theorem meet_lo (a b c d:Pt):meetS c d (lo2 a b) (hi2 a b)=meetS a b c d:=by
 rw [<-jW];unfold lo2 hi2;by_cases h:cmpP b a < 0
 ·rw [J1 h,J1 h,Yq]
 ·rw [Kl h,Kl h]
theorem Xk (a b:Pt):rl a b=lo2 a b/\rg a b=hi2 a b:=by
 by_cases h:a=b
 ·subst h;unfold rl rg lo2 hi2;rw [zY.2 rfl];exact ⟨rfl,rfl⟩
 ·exact rl_lo h
theorem Kd {L:List Wl} (hr:Ris L) (ha:Apart L) (hg:∀ x∈L,GoodW x) {a b:Pt} {r:Int} {L':List Wl} (h:RemAt L (rl a b) (rg a b) r L'):r=remE L (lo2 a b) (hi2 a b)/\L'=remL L (lo2 a b) (hi2 a b):=by
 rw [(Xk a b).1,(Xk a b).2] at h;have hK:∀ x∈L,0 < x.K:=λx hx=>by have:=(hg x hx).k;omega
 generalize lo2 a b=p at *
 generalize hi2 a b=q at *
 unfold remE remL;cases hf:fnd L (posW L p q) p q with
 | true=>
  obtain ⟨hm,_,e1,e2⟩:=jc hr hf hK;rw [J1 rfl,J1 rfl];rcases h with ⟨_,_,h3⟩ | ⟨h1,k,hk,h2,h3⟩
  ·have:=h3 _ (JP hm);rw [xY.2 ⟨e1,e2⟩] at this;cases this
  ·refine ⟨h1,?_⟩;have hkm:k=posW L p q:=by
    by_cases e:k=posW L p q
    ·exact e
    ·exfalso
     obtain ⟨e3,e4⟩:=xY.1 h2;have h0:=kR ha hk hm e;rw [e1,e2,<-e3,<-e4] at h0;exact xX (hg _ (JP hk)) h0
   rw [h3,hkm]
 | false=>
  have hn:=uY hr hf hK;rw [Kl (by simp),Kl (by simp)];rcases h with ⟨h1,h2,_⟩ | ⟨_,k,hk,h2,_⟩
  ·exact ⟨h1,h2⟩
  ·exfalso
   have:=QG.1 hn _ (JP hk);exact this h2
theorem K5 {p:Pt} {x:Wl} (hx:GoodW x) (h:onR p x.A x.B=true) (hne:p≠x.A):cmpP x.A p<=0/\bsd x p p=false:=by
 unfold onR at h;simp only [Ko,Kn] at h;obtain ⟨_,_,_,hd,h1,h2⟩:=h;unfold btw at h1 h2;simp only [Kn] at h1 h2;have hab:=Y7.1 hx.ab;have hx1:x.A.x<=p.x/\p.x<=x.B.x:=by omega
 refine ⟨?_,?_⟩
 ·by_cases hlt:x.A.x < p.x
  ·have:cmpP x.A p < 0:=Y7.2 (.inl hlt);omega
  ·have e:p.x=x.A.x:=by omega
   rcases hab with hb | ⟨e2,hb⟩
   ·exfalso
    unfold det at hd;rw [e] at hd;have h3:(x.B.x - x.A.x) * (p.y - x.A.y)=0:=by grind
    rcases J0.1 h3 with h4 | h4
    ·omega
    ·exact hne (Pt.eq_iff.2 ⟨e,by omega⟩)
   ·have h3:x.A.y<=p.y:=by omega
    rcases Jx h3 with h4 | h4
    ·have:cmpP x.A p < 0:=Y7.2 (.inr ⟨by omega,h4⟩);omega
    ·exact absurd (Pt.eq_iff.2 ⟨e,by omega⟩) hne
 ·unfold bsd mxI mnI;simp only [Bool.or_eq_false_iff,QB];refine ⟨by omega,by omega,?_,?_⟩ <;> (repeat' split) <;> omega
theorem K4 {L:List Wl} (hr:Ris L) (hg:∀ x∈L,GoodW x) (p:Pt):L.find? (onD p)=(bgL L p).find? (onW p):=by
 have e1:(bgL L p).find? (onW p)=(bgL L p).find? (onD p):=je λx hx=>by
  have hxL:=(JS.1 hx).1;unfold onW onD;rw [on_eq];by_cases h1:x.A=p
  ·simp [h1]
  ·by_cases h2:x.B=p
   ·simp [h2]
   ·have h3:¬ p=x.A:=λe=>h1 e.symm;have h4:¬ p=x.B:=λe=>h2 e.symm;cases ho:onR p x.A x.B with
    | false=>simp
    | true=>simp [h1,h2,h3,h4,(K5 (hg x hxL) ho h3).2]
 rw [e1];obtain ⟨_,_,h3⟩:=vZ hr p;have hsplit:L=bgL L p ++ L.drop (bgL L p).length:=by
  conv=>lhs;rw [<-Ja (bgL L p).length L,h3]
 have hnone:(L.drop (bgL L p).length).find? (onD p)=none:=by
  rw [QG];intro x hx ho;have hxL:=Qc hx;unfold onD at ho;simp only [Ko,V8,QB] at ho;have hc:=(K5 (hg x hxL) ho.2.2 ho.1).1;obtain ⟨j,hj,rfl⟩:=QU.1 hx;rw [Vp] at hc;rw [JR] at hj;have h4:=((vZ hr p).1 ((bgL L p).length+j) (by omega)).1 (bgn_lt.2 hc);omega
 conv=>lhs;rw [hsplit]
 rw [VU,hnone,Option.or_none]
theorem Zo {y z:Wl} (hy:GoodW y) (hz:GoodW z) (h:cmpP y.B z.A<=0):meetS y.A y.B z.A z.B=0:=by
 have kY:key y.A < key y.B:=(ko hy.va hy.vb).1 hy.ab;have kZ:key z.A < key z.B:=(ko hz.va hz.vb).1 hz.ab;have fk:∀ p:Pt,ff 16777216 1 p=key p:=λp=>by unfold ff key;omega
 by_cases h0:cmpP y.B z.A=0
 ·have e:=zY.1 h0;have e2:peqI y.B.x y.B.y z.A.x z.A.y=true:=by rw [zo];simp [e]
  unfold meetS
  repeat' split
  all_goals first | rfl | skip
  ·unfold mil;have h1:¬ cmpP y.B y.A < 0:=by have:=hy.ab;rw [zu];omega
   have h2:¬ cmpP z.B z.A < 0:=by have:=hz.ab;rw [zu];omega
   rw [show lo2 z.A z.B=z.A by unfold lo2;rw [Kl h2],show hi2 y.A y.B=y.B by unfold hi2;rw [Kl h1],<-e,zY.2 rfl];split <;> simp
 ·have h1:cmpP y.B z.A < 0:=by omega
  have hk:key y.B < key z.A:=(ko hy.vb hz.va).1 h1;exact meet_apart 16777216 1 (key z.A) (by rw [fk];omega) (by rw [fk];omega) (by rw [fk];omega) (by rw [fk];omega)
end
theorem jH {E:Es} {L M:List Tri3} (g:Good E L) (k:Good E M):L.Perm M:=g.heads.symm.trans k.heads
theorem edgeL.perm {L M:List Tri3} {a b:Pt} (h:edgeL L a b) (p:L.Perm M):edgeL M a b:=h.imp (zq p).mem_iff.1 (zq p).mem_iff.1
theorem vL (p a b:Pt):onS p b a=onS p a b:=by
 rw [on_eq,on_eq,Qf];unfold onR btw;simp only [Ko,Kn];have:=zV a b p;constructor <;> rintro ⟨v1,v2,v3,z,b1,b2⟩ <;> exact ⟨v1,v3,v2,by omega,by omega,by omega⟩
theorem has_on {a b c p:Pt} (hp:0 < det a b c) (va:vld a=true) (vb:vld b=true) (vp:vld p=true) (z:det a b p=0) (k1:0<=det b c p) (k2:0<=det c a p):onS p a b=true:=by
 have e:det a b c=det a b p+det b c p+det c a p:=by unfold det;grind
 have x1:det a b c * (p.x - a.x)=det c a p * (b.x - a.x):=by
  have:det a b c * (p.x - a.x)=det c a p * (b.x - a.x)+det a b p * (c.x - a.x):=by unfold det;grind
  rw [this,z,Jh,Qz]
 have x2:det a b c * (p.y - a.y)=det c a p * (b.y - a.y):=by
  have:det a b c * (p.y - a.y)=det c a p * (b.y - a.y)+det a b p * (c.y - a.y):=by unfold det;grind
  rw [this,z,Jh,Qz]
 have y1:=Xs hp k2 (by omega) x1;have y2:=Xs hp k2 (by omega) x2;rw [on_eq];unfold onR;rw [va,vb,vp,z,y1,y2];rfl
theorem Yh {p a b:Pt} (h:onS p a b=true):det a b p=0:=by
 rw [on_eq] at h;unfold onR at h;simp only [Ko,Kn] at h;exact h.2.2.2.1
theorem kS {a b c p:Pt} (hp:0 < det a b c) (z1:det a b p=0) (z2:det b c p=0):p=b:=by
 have x1:det a b c * (p.x - b.x)=0:=by
  have:det a b c * (p.x - b.x)=det b c p * (a.x - b.x)+det a b p * (c.x - b.x):=by unfold det;grind
  rw [this,z1,z2];simp
 have x2:det a b c * (p.y - b.y)=0:=by
  have:det a b c * (p.y - b.y)=det b c p * (a.y - b.y)+det a b p * (c.y - b.y):=by unfold det;grind
  rw [this,z1,z2];simp
 rcases J0.1 x1 with k | k
 ·omega
 ·rcases J0.1 x2 with j | j
  ·omega
  ·exact Pt.eq_iff.2 ⟨by omega,by omega⟩
section
variable {W H:Int} {E:Es} {L:List Tri3} {p:Pt} (hW:W < 16777216) (hH:H < 16777216) (g:Good E L) (t:Tiles W H L)
include hW hH g t
theorem add_edges (hW0:0 < W) (hH0:0 < H) (hp:inBox W H p) (hn:¬ someC L p) {L1:List Tri3} (g1:Good (addPE E p) L1):(∀ a b,(a,b)∈L.flatMap ways->onS p a b=false->(a,b)∈L1.flatMap ways)/\(∀ a b,(a,b)∈L.flatMap ways->onS p a b=true->(a,p)∈L1.flatMap ways/\(p,b)∈L1.flatMap ways):=by
 have vb:∀ q,inBox W H q->vld q=true:=λq hq=>by rw [zj];unfold inBox at hq;omega
 have vp:=vb _ hp;obtain ⟨h1,h2⟩:=tc hW hH g hp;have hn':∀ T∈L,¬ isCnr T p:=λT hT hc=>hn ⟨T,hT,hc⟩;obtain ⟨F,hF,f1,f2⟩:=t.spots hW0 hH0 hp hn' h2;have fa:=h1.trans f1;have hcut:∀ T∈atE E p,(cutS p T).Perm (cutP p T):=by
  intro T hT;have hm:=JS.1 (h1.mem_iff.1 hT);have hc:=hn' T hm.1;have:cutOk T p=true:=by
   unfold cutOk isCnr at *;simp only [U8] at hc;rw [hm.2,yM.2 hc.1,yM.2 hc.2.1,yM.2 hc.2.2];rfl
  unfold cutS cutR;rw [J1 this];exact zS _
 obtain ⟨t',tv⟩:=vg t hW0 hH0 hW hH hp hn' hF f2;have pI:((atE E p).flatMap (cutS p)).Perm (F.flatMap (cutP p)):=(jD hcut).trans (fa.flatMap_right _);have g2:Good (addPE E p) ((atE E p).flatMap (cutS p) ++ L.filter (λx => !hasP x p)):=by
  unfold addPE;rw [jJ];have k:=Good.takesF (F:=atE E p) (E:=E) (M:=L.filter λx => !hasP x p) (g.order (f2.trans (fa.symm.append_right _)));refine Good.putsF k (λU hU=>(tv U (pI.mem_iff.1 hU)).1) ?_;exact (zq (pI.append_right _)).nodup_iff.2 t'.once
 have pL:=zq (jH g2 g1);have inC:∀ {T U:Tri3} {w:Pt×Pt},T∈L->hasP T p=true->U∈cutP p T->w∈ways U->w∈L1.flatMap ways:=λ{T U w} hT hh hU hw=>by
  have hA:T∈atE E p:=h1.mem_iff.2 (JS.2 ⟨hT,hh⟩);exact pL.mem_iff.1 (JH.2 ⟨U,Jo _ (JH.2 ⟨T,hA,(hcut T hA).mem_iff.2 hU⟩),hw⟩)
 constructor
 ·intro a b hm ho;obtain ⟨T,hT,c,hc,hpos⟩:=t.way_of hm;by_cases hh:hasP T p=true
  ·have hs:=(h2 T hT).1 hh;have bx:=t.cyc_box hT hc;have by':=t.cyc_box hT hc.turn;have d3:0<=det a b p/\0<=det b c p/\0<=det c a p:=by
    rcases hc with ⟨rfl,rfl,rfl⟩ | ⟨rfl,rfl,rfl⟩ | ⟨rfl,rfl,rfl⟩
    ·exact hs
    ·exact ⟨hs.2.1,hs.2.2,hs.1⟩
    ·exact ⟨hs.2.2,hs.1,hs.2.1⟩
   have hd:0 < det a b p:=by
    rcases Jx d3.1 with k | k
    ·exact k
    ·rw [has_on hpos (vb _ bx) (vb _ by') vp k.symm d3.2.1 d3.2.2] at ho;cases ho
   have hU:mk a b p∈cutP p T:=by
    rw [(xw hc p).mem_iff,zx (vb _ bx) (vb _ by') vp hd];simp
   exact inC hT hh hU (yG (vb _ bx) (vb _ by') vp hd).1.way
  ·exact pL.mem_iff.1 (JH.2 ⟨T,Jp _ (JS.2 ⟨hT,by simpa using hh⟩),hc.way⟩)
 ·intro a b hm ho;obtain ⟨T,hT,c,hc,hpos⟩:=t.way_of hm;have hh:=Xm hc hpos ho;have hhP:=(h2 T hT).2 hh;have hz:=Yh ho;have bx:=t.cyc_box hT hc;have by':=t.cyc_box hT hc.turn;have bz:=t.cyc_box hT hc.turn.turn;have hcn:¬ (p=a\/p=b\/p=c):=λk=>hn' T hT ((hc.cnr_iff p).2 k);simp only [U8] at hcn;have d3:0<=det b c p/\0<=det c a p:=by
   rcases hc with ⟨rfl,rfl,rfl⟩ | ⟨rfl,rfl,rfl⟩ | ⟨rfl,rfl,rfl⟩
   ·exact hh.2
   ·exact ⟨hh.2.2,hh.1⟩
   ·exact ⟨hh.1,hh.2.1⟩
  have e2:det c a b=det a b c:=by unfold det;grind
  have d4:0 < det b c p:=by
   rcases Jx d3.1 with k | k
   ·exact k
   ·exact absurd (kS hpos hz k.symm) hcn.2.1
  have d5:0 < det c a p:=by
   rcases Jx d3.2 with k | k
   ·exact k
   ·exact absurd (kS (a:=c) (b:=a) (c:=b) (by omega) k.symm hz) hcn.1
  have hU:mk b c p∈cutP p T:=by
   rw [(xw hc p).mem_iff,zx (vb _ by') (vb _ bz) vp d4];simp
  have hV:mk c a p∈cutP p T:=by
   rw [(xw hc p).mem_iff,zx (vb _ bz) (vb _ bx) vp d5];simp
  exact ⟨inC hT hhP hV (yG (vb _ bz) (vb _ bx) vp d5).1.turn.way,inC hT hhP hU (yG (vb _ by') (vb _ bz) vp d4).1.turn.turn.way⟩
omit hW hH g in
theorem on_single (hn:¬ someC L p) {a b c d:Pt} (e1:edgeL L a b) (e2:edgeL L c d) (o1:onS p a b=true) (o2:onS p c d=true):(a=c/\b=d)\/(a=d/\b=c):=by
 have main:∀ {a b c d:Pt},(a,b)∈L.flatMap ways->(c,d)∈L.flatMap ways->onS p a b=true->onS p c d=true->(a=c/\b=d)\/(a=d/\b=c):=by
  intro a b c d m1 m2 o1 o2;obtain ⟨S,hS,s,cS,pS⟩:=t.way_of m1;obtain ⟨T,hT,u,cT,pT⟩:=t.way_of m2;have hh:=Xm cT pT o2;have h1:=Xm cS pS o1;have z1:=Yh o1;have z2:=Yh o2;have nS:¬ (p=a\/p=b\/p=s):=λk=>hn ⟨S,hS,(cS.cnr_iff p).2 k⟩;have nT:¬ (p=c\/p=d\/p=u):=λk=>hn ⟨T,hT,(cT.cnr_iff p).2 k⟩;simp only [U8] at nS nT;have d3:0<=det b s p/\0<=det s a p:=by
   rcases cS with ⟨rfl,rfl,rfl⟩ | ⟨rfl,rfl,rfl⟩ | ⟨rfl,rfl,rfl⟩
   ·exact h1.2
   ·exact ⟨h1.2.2,h1.1⟩
   ·exact ⟨h1.1,h1.2.1⟩
  have hedg:edg a b s p:=by
   refine ⟨z1,?_,?_⟩
   ·rcases Jx d3.1 with k | k
    ·exact k
    ·exact absurd (kS pS z1 k.symm) nS.2.1
   ·rcases Jx d3.2 with k | k
    ·exact k
    ·have e2:det s a b=det a b s:=by unfold det;grind
     exact absurd (kS (a:=s) (b:=a) (c:=b) (by omega) k.symm z1) nS.1
  have hcT:¬ isCnr T p:=λk=>by
   have:=(cT.cnr_iff p).1 k;simp only [nT,or_self] at this
  have same:∀ {x y:Pt},(x,y)∈ways T->det x y p=0->x=c/\y=d:=by
   intro x y hw hz;have:=cT.ways.mem_iff.1 hw;simp only [Km,Ji,JB,Jj] at this;rcases this with k | ⟨k1,k2⟩ | ⟨k1,k2⟩ <;> try rw [k1,k2] at hz
   ·exact k
   ·exact absurd (kS pT z2 hz) nT.2.1
   ·have e2:det u c d=det c d u:=by unfold det;grind
    exact absurd (kS (a:=u) (b:=c) (c:=d) (by omega) hz z2) nT.1
  rcases t.edg_two hS hT cS hedg hh hcT with e | ⟨k,_⟩
  ·rw [e] at same;exact .inl (same cS.way z1)
  ·have:=same k (by have:=zV a b p;omega);exact .inr ⟨this.2,this.1⟩
 rcases e1 with e1 | e1 <;> rcases e2 with e2 | e2
 ·exact main e1 e2 o1 o2
 ·rw [<-vL] at o2;rcases main e1 e2 o1 o2 with ⟨k1,k2⟩ | ⟨k1,k2⟩
  ·exact .inr ⟨k1,k2⟩
  ·exact .inl ⟨k1,k2⟩
 ·rw [<-vL] at o1;rcases main e1 e2 o1 o2 with ⟨k1,k2⟩ | ⟨k1,k2⟩
  ·exact .inr ⟨k2,k1⟩
  ·exact .inl ⟨k2,k1⟩
 ·rw [<-vL] at o1 o2;rcases main e1 e2 o1 o2 with ⟨k1,k2⟩ | ⟨k1,k2⟩
  ·exact .inl ⟨k2,k1⟩
  ·exact .inr ⟨k2,k1⟩
end
structure WInv (L:List Tri3) (D:List Wl):Prop where
 good:∀ x∈D,GoodW x
 ris:Ris D
 apart:Apart D
 edge:∀ x∈D,edgeL L x.A x.B
theorem jS {D:List Wl} {X:Wl} {k:Nat} (hr:Ris D) (h:PutAt D X k) (hne:∀ x∈D,x≠X):Ris (insW D X k):=by
 obtain ⟨q0,q1,q2⟩:=h;have lt:∀ (i:Nat) (hi:i < D.length),¬ 0 < cmpW D[i] X->cmpW D[i] X < 0:=λi hi hh=>by
  have:cmpW D[i] X≠0:=λe=>hne _ (JP hi) (ZD.1 e);omega
 unfold insW;exact (xP wholeW hr q0 (λi hi=>by
  have hk:k - 1 < D.length:=by omega
  have h1:=lt (k - 1) hk (q2 hk (by omega));rcases QS i (k - 1) with h3 | h3
  ·exact wholeW.trans (uD hr (by omega) hk h3) h1
  ·have e:i=k - 1:=by omega
   subst e;exact h1) (λi h1 h2=>q1 i h2 h1)).1
theorem yk (D:List Wl) (X:Wl) (k:Nat):(insW D X k).Perm (X :: D):=xT k
theorem Xy {D M:List Wl} (h:Ris D) (s:M.Sublist D):Ris M:=List.Pairwise.sublist s h
theorem uc {D:List Wl} {k:Nat}:(D.take k ++ D.drop (k+1)).Sublist D:=by
 have e:D=D.take k ++ D.drop k:=(Ja k D).symm
 conv=>rhs;rw [e]
 exact (List.Sublist.refl _).append (by rw [<-UD];exact List.drop_sublist _ _)
theorem jU {X:Wl} {p:Pt} (hX:GoodW X) (ho:onR p X.A X.B=true) (h1:p≠X.A) (h2:p≠X.B):cmpP X.A p < 0/\cmpP p X.B < 0:=by
 have hn:X.A≠X.B:=λe=>by have:=hX.ab;rw [e,zY.2 rfl] at this;omega
 have hab:=hX.ab;have ho':=ho;unfold onR at ho';simp only [Ko,Kn] at ho';obtain ⟨_,_,_,hd,b1,b2⟩:=ho';have k:=(on_k hn hd).2 ((btw_k hn hd).1 (by rw [b1,b2];rfl));have a0:cmpP X.A p≠0:=λe=>h1 (zY.1 e).symm;have b0:cmpP p X.B≠0:=λe=>h2 (zY.1 e);have sg:∀ x y:Pt,cmpP x y = -1\/cmpP x y=0\/cmpP x y=1:=λx y=>by
  unfold cmpP cmpN;split
  ·rcases zL (x.y - y.y) with ⟨e,_⟩ | ⟨e,_⟩ | ⟨e,_⟩ <;> rw [e] <;> simp
  ·rcases zL (x.x - y.x) with ⟨e,_⟩ | ⟨e,_⟩ | ⟨e,_⟩ <;> rw [e] <;> simp
 have s1:=sg X.A p;have s2:=sg p X.B;rcases s1 with e | e | e
 ·rcases s2 with f | f | f
  ·omega
  ·omega
  ·rw [e,f] at k;omega
 ·omega
 ·rcases s2 with f | f | f
  ·rw [e,f] at k;omega
  ·omega
  ·exfalso
   have n1:=zu X.A p;have n2:=zu p X.B;have:=wholeP.trans (x:=X.B) (y:=p) (z:=X.A) (by omega) (by omega);have n3:=zu X.A X.B;omega
theorem tj {W H:Int} (hW0:0 < W) (hH0:0 < H) (hW:W < 16777216) (hH:H < 16777216) {E:Es} {L L1:List Tri3} {D D':List Wl} {p:Pt} (g:Good E L) (t:Tiles W H L) (hI:WInv L D) (hp:inBox W H p) (hn:¬ someC L p) (hA:AddD D p D') (g1:Good (addPE E p) L1) (t1:Tiles W H L1):WInv L1 D':=by
 have vb:∀ q,inBox W H q->vld q=true:=λq hq=>by rw [zj];unfold inBox at hq;omega
 obtain ⟨a1,a2⟩:=add_edges hW hH g t hW0 hH0 hp hn g1;have stays:∀ {a b:Pt},edgeL L a b->onS p a b=false->edgeL L1 a b:=λ{a b} he ho=>by
  rcases he with he | he
  ·exact .inl (a1 _ _ he ho)
  ·exact .inr (a1 _ _ he (by rw [vL];exact ho))
 have cuts:∀ {a b:Pt},edgeL L a b->onS p a b=true->edgeL L1 a p/\edgeL L1 p b:=λ{a b} he ho=>by
  rcases he with he | he
  ·exact ⟨.inl (a2 _ _ he ho).1,.inl (a2 _ _ he ho).2⟩
  ·have k:=a2 _ _ he (by rw [vL];exact ho);exact ⟨.inr k.2,.inr k.1⟩
 have ends:∀ {a b:Pt},edgeL L a b->p≠a/\p≠b:=λ{a b} he=>by
  obtain ⟨_,⟨c1,c2⟩,_⟩:=t.edge_box he;exact ⟨λe=>hn (e▸c1),λe=>hn (e▸c2)⟩
 rcases hA with ⟨hf,rfl⟩ | ⟨X,r,D1,k1,k2,hf,hR,p1,p2,rfl⟩
 ·refine ⟨hI.good,hI.ris,hI.apart,λx hx=>?_⟩;refine stays (hI.edge x hx) ?_;have h0:=QG.1 hf x hx;obtain ⟨n1,n2⟩:=ends (hI.edge x hx);rw [on_eq];unfold onD at h0
  simpa [n1,n2] using h0
 ·have hXm:=Jr hf;have hX:=hI.good X hXm;have hXe:=hI.edge X hXm;obtain ⟨n1,n2⟩:=ends hXe;have ho:onR p X.A X.B=true:=by
   have:=VC hf;unfold onD at this
   simpa [n1,n2] using this
  have ho':onS p X.A X.B=true:=by rw [on_eq];exact ho
  obtain ⟨cA,cB⟩:=jU hX ho n1 n2;obtain ⟨eA,eB⟩:=cuts hXe ho';have hlo:rl X.A X.B=X.A/\rg X.A X.B=X.B:=by unfold rl rg;rw [J1 hX.ab,J1 hX.ab];exact ⟨rfl,rfl⟩
  rw [hlo.1,hlo.2] at hR;have hD1:D1.Sublist D/\∀ y∈D1,y∈D/\meetS X.A X.B y.A y.B=0:=by
   rcases hR with ⟨_,_,h0⟩ | ⟨_,k,hk,hw,e⟩
   ·have:=h0 X hXm;rw [xY.2 ⟨rfl,rfl⟩] at this;cases this
   ·rw [e];refine ⟨uc,λy hy=>⟨uc.mem hy,?_⟩⟩;obtain ⟨w1,w2⟩:=xY.1 hw;have hp':D.Perm (D[k] :: (D.take k ++ D.drop (k+1))):=by
     have e2:D=D.take k ++ D[k] :: D.drop (k+1):=by
      rw [VD hk,Ja]
     have:=QH (a:=D[k]) (l₁:=D.take k) (l₂:=D.drop (k+1));rw [<-e2] at this;exact this
    have:=Jt.1 (qV hp' hI.apart);have h3:=this.1 y hy;rw [w1,w2] at h3;exact h3
  obtain ⟨hsub,hD1⟩:=hD1;have ne1:∀ y∈D1,¬ (y.A=p\/y.B=p):=λy hy k=>by
   obtain ⟨m1,m2⟩:=ends (hI.edge y (hD1 y hy).1);rcases k with k | k
   ·exact m1 k.symm
   ·exact m2 k.symm
  have hye:∀ y∈D1,edgeL L1 y.A y.B:=λy hy=>by
   refine stays (hI.edge y (hD1 y hy).1) ?_;cases hoy:onS p y.A y.B with
   | false=>rfl
   | true=>
    exfalso
    have gy:=hI.good y (hD1 y hy).1;rcases on_single t hn hXe (hI.edge y (hD1 y hy).1) ho' hoy with ⟨e1,e2⟩ | ⟨e1,e2⟩
    ·have h3:=(hD1 y hy).2;rw [<-e1,<-e2] at h3;exact xX hX h3
    ·have k1:=hX.ab;have k2:=gy.ab;rw [e1,e2,zu] at k1;omega
  have gA:GoodW ⟨X.A,p,X.K⟩:=⟨hX.va,vb _ hp,cA,hX.k⟩;have gB:GoodW ⟨p,X.B,X.K⟩:=⟨vb _ hp,hX.vb,cB,hX.k⟩;have q1:=yk D1 ⟨X.A,p,X.K⟩ k1;have q2:=yk (insW D1 ⟨X.A,p,X.K⟩ k1) ⟨p,X.B,X.K⟩ k2;have q:=q2.trans (q1.cons _);have mem:∀ {x},x∈insW (insW D1 ⟨X.A,p,X.K⟩ k1) ⟨p,X.B,X.K⟩ k2->x=⟨p,X.B,X.K⟩\/x=⟨X.A,p,X.K⟩\/x∈D1:=λ{x} hx=>by
   have:=q.mem_iff.1 hx
   simpa using this
  refine ⟨λx hx=>?_,?_,?_,λx hx=>?_⟩
  ·rcases mem hx with rfl | rfl | hx
   ·exact gB
   ·exact gA
   ·exact hI.good x (hD1 x hx).1
  ·refine jS (jS (Xy hI.ris hsub) p1 (λx hx e=>ne1 x hx (.inr (by rw [e])))) p2 (λx hx e=>?_);rcases Km.1 (q1.mem_iff.1 hx) with k | k
   ·rw [e] at k;simp only [Wl.mk.injEq] at k;exact n1 k.1
   ·exact ne1 x k (.inl (by rw [e]))
  ·refine qV q.symm ?_;refine Jt.2 ⟨λy hy=>?_,Jt.2 ⟨λy hy=>?_,List.Pairwise.sublist hsub hI.apart⟩⟩
   ·rcases Km.1 hy with rfl | hy
    ·exact t1.edges_apart hW hH eB eA (by rintro (⟨k,_⟩ | ⟨_,k⟩);exact n1 k;exact (λk2=>by have:=hX.ab;rw [<-k2,zY.2 rfl] at this;omega) k.symm)
    ·exact t1.edges_apart hW hH eB (hye y hy) (by rintro (⟨k,_⟩ | ⟨k,_⟩);exact ne1 y hy (.inl k.symm);exact ne1 y hy (.inr k.symm))
   ·exact t1.edges_apart hW hH eA (hye y hy) (by rintro (⟨_,k⟩ | ⟨_,k⟩);exact ne1 y hy (.inr k.symm);exact ne1 y hy (.inl k.symm))
  ·rcases mem hx with rfl | rfl | hx
   ·exact eB
   ·exact eA
   ·exact hye x hx
theorem winv_wll {L:List Tri3} {D:List Wl} (h:WInv L D) {x:Wl} (hx:x∈D):wll D x.A x.B:=by
 have hg:=h.good x hx;unfold wll;rw [Z5 h.good,(vP hg).1,(vP hg).2,kind_own h.apart h.good hx];have:=hg.k;omega
theorem WInv.kept {L L':List Tri3} {D:List Wl} (h:WInv L D) (k:Kept (wll D) L L'):WInv L' D:=by
 refine ⟨h.good,h.ris,h.apart,λx hx=>?_⟩;have hw:=winv_wll h hx;rcases h.edge x hx with e | e
 ·exact .inl (k.wall _ _ hw e)
 ·exact .inr (k.wall _ _ (by unfold wll at *;rw [qg];exact hw) e)
theorem WInv.perm {L L':List Tri3} {D:List Wl} (h:WInv L D) (p:L.Perm L'):WInv L' D:=⟨h.good,h.ris,h.apart,λx hx=>(h.edge x hx).perm p⟩
end
end Go.Proofs.YtmpfadapbbjbkaaGreat
namespace Go.Proofs.YtmpfadapbbjbkaaGreat.FT
open Go.RowKit Go.Sort
variable {P:Program} {Q:Exit->Act->World->Prop}
theorem wp_region_flowC {id:Nat} {a:Act} {w:World} {l:List Oper} (n:Nat) (pl:Plan) (hm:P.follows .mixedOrders=true) (hB:(Region.noSelect l.toArray && decide (n < l.toArray.size) && Region.sinkB .any l.toArray n && Region.chainB .any l.toArray n && planB .any n l.toArray [] pl (Array.replicate l.toArray.size false))=true) (hQ:∀ c x v a w,Q (.panic c) (Act.put a x v) w->Q (.panic c) a w) {C:World->Prop} (hC:∀ w',Below w w w'->C w') (hcl:∀ x y,Ext x y->C x->C y) (h:flow P l.toArray n Q pl C a w):(Code.region id l.toArray true).wp P Q a w:=by
 simp only [Ko,Kn] at hB;obtain ⟨⟨⟨⟨h1,h2⟩,h3⟩,h4⟩,h5⟩:=hB;refine wp_region_any hm ?_;have hx:Ext w { w with drawn:=w.drawn+1 }:=⟨rfl,rfl,rfl,JA _,λ_ _=>rfl⟩;exact tO h1 h2 h3 h4 hQ _ pl C _ a w _ h5 headInv0 (by
  have:=Qe (λi => !(Array.replicate l.toArray.size false).getD i true) (List.range n);rw [VT] at this;unfold undone;omega) hcl (hC _ hx) hx h
end Go.Proofs.YtmpfadapbbjbkaaGreat.FT
namespace Go.Proofs.YtmpfadapbbjbkaaGreat
open _root_.Go.Proofs.Tryz
section
open Go.RowKit Go.Sort
attribute [local go_sem] rOper rAt rUpon cell_set sg_i64 sg_u64 alloc_cell alloc_frozen
attribute [local go_sem 10000] pt_eql pt_neq tri_eql
attribute [local irreducible] rWalk
def badP (E:Es) (Lw:List Wl) (p q:Pt):Bool:=(lftE E p q).2 && ((lftE E q p).2 && (decide (kindW Lw (lo2 p q) (hi2 p q)=0) && decide (circ p q (apx (lftE E p q).1 p q) (apx (lftE E q p).1 p q)=1)))
def badC (E:Es) (Lw:List Wl) (p q:Pt):Pt×Pt:=if (lftE E p q).2=true/\(lftE E q p).2=true/\kindW Lw (lo2 p q) (hi2 p q)=0 then (apx (lftE E p q).1 p q,apx (lftE E q p).1 p q) else (⟨0,0⟩,⟨0,0⟩)
theorem fbad_a (mb b:Nat) (E:Es) (sb:Nat) (a0:Option Addr) (c n:Nat) (Lw:List Wl) (p q:Pt) (hk:okW (p,q)) (X Y:Tri3) (h1:lftE E p q=(X,false)) (v2:Bool) (h2:lftE E q p=(Y,v2)) (w:World) (Bm:Box w mb [.map (some b)] 102) (Hm:Hs w b E) (S:SetRd w sb a0 c n Lw):Calls prog 134 #[pt0 mb,pt0 sb,p,q] w (Rt w (.tuple #[.agg #[(),()],.agg #[(),()],.bool false])):=by
 have cl:=qN mb b E p q hk;have cl':=qN mb b E q p ⟨hk.2,hk.1⟩;have ck:=qO sb a0 c n Lw p q;have _:=S;rw [h1] at cl;rw [h2] at cl';clear h1 h2 hk
 go_enter func134,ntmps134
 go_wp2_with fail;refine qE4 λW1 Ba Bb Bc Bd hw=>?_;refine qC4 (cl _ (Bm.ee hw) (Hm.ee hw)) Ba Bb Bc Bd hw λw2 Ba Bb Bc Bd hw Fj=>?_;go_wp2_with fail;clear Fj;refine zI λW3 hW=>?_;obtain ⟨bkx,hbx⟩:∃ b,w2.heap.size=b:=⟨_,rfl⟩;rw [hbx];obtain ⟨lax,lbx,lcx,ldx,fx,Bx,Ba,Bb,Bc,Bd,hw⟩:=qM4 hW hbx Ba Bb Bc Bd hw;clear hW hbx;refine qC5 (cl' _ (Bm.ee hw) (Hm.ee hw)) Ba Bb Bc Bd Bx hw λw4 Ba Bb Bc Bd Bx hw GQ=>?_;go_wp2_with fail;clear GQ;refine zG λW5 hW=>?_;obtain ⟨bky,hby⟩:∃ b,w4.heap.size=b:=⟨_,rfl⟩;rw [hby];obtain ⟨lay,lby,lcy,ldy,lxy,fy,By,Ba,Bb,Bc,Bd,Bx,hw⟩:=qM5 hW hby Ba Bb Bc Bd Bx hw;clear hW hby;have Fa:=Ba.f;have Fb:=Bb.f;have Fc:=Bc.f;have Fd:=Bd.f;have Fx:=Bx.f;have Fy:=By.f;clear cl cl' ck Bm Hm S
 go_region
 go_wp2;refine bodyPost_ret (v:=.tuple #[.agg #[(),()],.agg #[(),()],.bool false]) (by simp [results,results134,go_sem,Fc,Fd]) rfl ⟨rfl,by have hl:=hw.size;go_grown⟩
theorem fbad_b (mb b:Nat) (E:Es) (sb:Nat) (a0:Option Addr) (c n:Nat) (Lw:List Wl) (p q:Pt) (hk:okW (p,q)) (X Y:Tri3) (h1:lftE E p q=(X,true)) (h2:lftE E q p=(Y,false)) (w:World) (Bm:Box w mb [.map (some b)] 102) (Hm:Hs w b E) (S:SetRd w sb a0 c n Lw):Calls prog 134 #[pt0 mb,pt0 sb,p,q] w (Rt w (.tuple #[.agg #[(),()],.agg #[(),()],.bool false])):=by
 have cl:=qN mb b E p q hk;have cl':=qN mb b E q p ⟨hk.2,hk.1⟩;have ck:=qO sb a0 c n Lw p q;have _:=S;rw [h1] at cl;rw [h2] at cl';clear h1 h2 hk
 go_enter func134,ntmps134
 go_wp2_with fail;refine qE4 λW1 Ba Bb Bc Bd hw=>?_;refine qC4 (cl _ (Bm.ee hw) (Hm.ee hw)) Ba Bb Bc Bd hw λw2 Ba Bb Bc Bd hw Fj=>?_;go_wp2_with fail;clear Fj;refine zI λW3 hW=>?_;obtain ⟨bkx,hbx⟩:∃ b,w2.heap.size=b:=⟨_,rfl⟩;rw [hbx];obtain ⟨lax,lbx,lcx,ldx,fx,Bx,Ba,Bb,Bc,Bd,hw⟩:=qM4 hW hbx Ba Bb Bc Bd hw;clear hW hbx;refine qC5 (cl' _ (Bm.ee hw) (Hm.ee hw)) Ba Bb Bc Bd Bx hw λw4 Ba Bb Bc Bd Bx hw GQ=>?_;go_wp2_with fail;clear GQ;refine zG λW5 hW=>?_;obtain ⟨bky,hby⟩:∃ b,w4.heap.size=b:=⟨_,rfl⟩;rw [hby];obtain ⟨lay,lby,lcy,ldy,lxy,fy,By,Ba,Bb,Bc,Bd,Bx,hw⟩:=qM5 hW hby Ba Bb Bc Bd Bx hw;clear hW hby;have Fa:=Ba.f;have Fb:=Bb.f;have Fc:=Bc.f;have Fd:=Bd.f;have Fx:=Bx.f;have Fy:=By.f;clear cl cl' ck Bm Hm S
 go_region
 go_wp2;refine bodyPost_ret (v:=.tuple #[.agg #[(),()],.agg #[(),()],.bool false]) (by simp [results,results134,go_sem,Fc,Fd]) rfl ⟨rfl,by have hl:=hw.size;go_grown⟩
theorem fbad_c (mb b:Nat) (E:Es) (sb:Nat) (a0:Option Addr) (c n:Nat) (Lw:List Wl) (p q:Pt) (hk:okW (p,q)) (X Y:Tri3) (h1:lftE E p q=(X,true)) (h2:lftE E q p=(Y,true)) (h3:¬ kindW Lw (lo2 p q) (hi2 p q)=0) (w:World) (Bm:Box w mb [.map (some b)] 102) (Hm:Hs w b E) (S:SetRd w sb a0 c n Lw):Calls prog 134 #[pt0 mb,pt0 sb,p,q] w (Rt w (.tuple #[.agg #[(),()],.agg #[(),()],.bool false])):=by
 have cl:=qN mb b E p q hk;have cl':=qN mb b E q p ⟨hk.2,hk.1⟩;have ck:=qO sb a0 c n Lw p q;have _:=S;rw [h1] at cl;rw [h2] at cl';clear h1 h2 hk;generalize kindW Lw (lo2 p q) (hi2 p q)=k at *
 have h3':(k != 0)=true:=by simpa using h3
 go_enter func134,ntmps134
 go_wp2_with fail;refine qE4 λW1 Ba Bb Bc Bd hw=>?_;refine qC4 (cl _ (Bm.ee hw) (Hm.ee hw)) Ba Bb Bc Bd hw λw2 Ba Bb Bc Bd hw Fj=>?_;go_wp2_with fail;clear Fj;refine zI λW3 hW=>?_;obtain ⟨bkx,hbx⟩:∃ b,w2.heap.size=b:=⟨_,rfl⟩;rw [hbx];obtain ⟨lax,lbx,lcx,ldx,fx,Bx,Ba,Bb,Bc,Bd,hw⟩:=qM4 hW hbx Ba Bb Bc Bd hw;clear hW hbx;refine qC5 (cl' _ (Bm.ee hw) (Hm.ee hw)) Ba Bb Bc Bd Bx hw λw4 Ba Bb Bc Bd Bx hw GQ=>?_;go_wp2_with fail;clear GQ;refine zI λW5 hW=>?_;obtain ⟨bky,hby⟩:∃ b,w4.heap.size=b:=⟨_,rfl⟩;rw [hby];obtain ⟨lay,lby,lcy,ldy,lxy,fy,By,Ba,Bb,Bc,Bd,Bx,hw⟩:=qM5 hW hby Ba Bb Bc Bd Bx hw;clear hW hby;refine qK6 (ck _ (S.ee hw)) Ba Bb Bc Bd Bx By hw λw6 Ba Bb Bc Bd Bx By hw=>?_;have Fa:=Ba.f;have Fb:=Bb.f;have Fc:=Bc.f;have Fd:=Bd.f;have Fx:=Bx.f;have Fy:=By.f;go_wp2_with fail;clear cl cl' ck Bm Hm S
 go_region
 go_wp2;refine bodyPost_ret (v:=.tuple #[.agg #[(),()],.agg #[(),()],.bool false]) (by simp [results,results134,go_sem,Fc,Fd]) rfl ⟨rfl,by have hl:=hw.size;go_grown⟩
theorem fbad_d (mb b:Nat) (E:Es) (sb:Nat) (a0:Option Addr) (c n:Nat) (Lw:List Wl) (p q:Pt) (hk:okW (p,q)) (X Y:Tri3) (h1:lftE E p q=(X,true)) (h2:lftE E q p=(Y,true)) (h3:kindW Lw (lo2 p q) (hi2 p q)=0) (C D:Pt) (hC:apx X p q=C) (hD:apx Y p q=D) (w:World) (Bm:Box w mb [.map (some b)] 102) (Hm:Hs w b E) (S:SetRd w sb a0 c n Lw):Calls prog 134 #[pt0 mb,pt0 sb,p,q] w (Rt w (.tuple #[C,D,.bool (decide (circ p q C D=1))])):=by
 have cl:=qN mb b E p q hk;have cl':=qN mb b E q p ⟨hk.2,hk.1⟩;have ck:=qO sb a0 c n Lw p q;have _:=S;rw [h1] at cl;rw [h2] at cl';clear h1 h2 hk;have cx:=ks X p q;have cy:=ks Y p q;rw [hC] at cx;rw [hD] at cy;rw [h3] at ck;have cc:=λw0=>circle_any p q C D w0;clear hC hD h3
 go_enter func134,ntmps134
 go_wp2_with fail;refine qE4 λW1 Ba Bb Bc Bd hw=>?_;refine qC4 (cl _ (Bm.ee hw) (Hm.ee hw)) Ba Bb Bc Bd hw λw2 Ba Bb Bc Bd hw Fj=>?_;go_wp2_with fail;clear Fj;refine zI λW3 hW=>?_;obtain ⟨bkx,hbx⟩:∃ b,w2.heap.size=b:=⟨_,rfl⟩;rw [hbx];obtain ⟨lax,lbx,lcx,ldx,fx,Bx,Ba,Bb,Bc,Bd,hw⟩:=qM4 hW hbx Ba Bb Bc Bd hw;clear hW hbx;refine qC5 (cl' _ (Bm.ee hw) (Hm.ee hw)) Ba Bb Bc Bd Bx hw λw4 Ba Bb Bc Bd Bx hw GQ=>?_;go_wp2_with fail;clear GQ;refine zI λW5 hW=>?_;obtain ⟨bky,hby⟩:∃ b,w4.heap.size=b:=⟨_,rfl⟩;rw [hby];obtain ⟨lay,lby,lcy,ldy,lxy,fy,By,Ba,Bb,Bc,Bd,Bx,hw⟩:=qM5 hW hby Ba Bb Bc Bd Bx hw;clear hW hby;refine qK6 (ck _ (S.ee hw)) Ba Bb Bc Bd Bx By hw λw6 Ba Bb Bc Bd Bx By hw=>?_;have Fa:=Ba.f;have Fb:=Bb.f;have Fc:=Bc.f;have Fd:=Bd.f;have Fx:=Bx.f;have Fy:=By.f;go_wp2_with fail;clear cl cl' ck Bm Hm S;have R3:=J6 Ba.cells Bb.cells Bc.cells Bd.cells Bx.cells By.cells;refine rgn 8 (λw7 hb=>?_);clear R3;clear Fa Fb Fc Fd Fx Fy;obtain ⟨Ba,Bb,Bc,Bd,Bx,By,hw,-⟩:=qX6 Ba Bb Bc Bd Bx By hw hb;have Fa:=Ba.f;have Fb:=Bb.f;have Fc:=Bc.f;have Fd:=Bd.f;have Fx:=Bx.f;have Fy:=By.f;go_wp2_with fail;refine zG λW8 hW=>?_;replace Ba:=sto Ba hW;replace Bb:=sto Bb hW;replace Bc:=sto Bc hW;replace Bd:=sto Bd hW;replace Bx:=sto Bx hW;replace By:=sto By hW;replace hw:=stw hw hW;clear Fa Fb Fc Fd Fx Fy;clear hW;have hCl:∀ x y,Ext x y->(λw'=>Box w' (w.heap.size) [p.x,p.y] 26/\Box w' (w.heap.size+1) [q.x,q.y] 26/\Box w' (w.heap.size+1+1) [C.x,C.y] 26/\Box w' (w.heap.size+1+1+1) [D.x,D.y] 26) x->(λw'=>Box w' (w.heap.size) [p.x,p.y] 26/\Box w' (w.heap.size+1) [q.x,q.y] 26/\Box w' (w.heap.size+1+1) [C.x,C.y] 26/\Box w' (w.heap.size+1+1+1) [D.x,D.y] 26) y:=λx y h1 h2=>⟨Box.ext (h2.1) h1 rfl,Box.ext (h2.2.1) h1 rfl,Box.ext (h2.2.2.1) h1 rfl,Box.ext (h2.2.2.2) h1 rfl⟩;have Ga:=Ba;have Gb:=Bb;have Gc:=Bc;have Gd:=Bd;refine FT.wp_region_flowC 10 (.run 0 (.run 1 (.run 2 (.run 3 (.run 4 (.run 5 (.alt 6 (.run 7 (.alt 8 (.alt 9 .tail .stop) .stop)) .stop))))))) rfl (by kernel_rfl) (λ_ x _ _ _ h=>by cases x <;> exact h) (C:=λw'=>Box w' (w.heap.size) [p.x,p.y] 26/\Box w' (w.heap.size+1) [q.x,q.y] 26/\Box w' (w.heap.size+1+1) [C.x,C.y] 26/\Box w' (w.heap.size+1+1+1) [D.x,D.y] 26) (λ_ h=>⟨Ga.ee h,Gb.ee h,Gc.ee h,Gd.ee h⟩) hCl ?_;refine FT.flow_run rfl (λK hK=>?_);go_simp;refine ⟨.agg #[C.x,C.y],λwq hq0 hq1 hq2 hq3=>?_,hK _ ?_⟩
 ·obtain ⟨y0,y1,y2,y3⟩:=hq2.f;go_simp
 clear hK K;refine FT.flow_run rfl (λK hK=>?_);go_simp;refine ⟨.agg #[D.x,D.y],λwq hq0 hq1 hq2 hq3=>?_,hK _ ?_⟩
 ·obtain ⟨y0,y1,y2,y3⟩:=hq3.f;go_simp
 clear hK K;refine FT.flow_run rfl (λK hK=>?_);go_simp;refine ⟨.agg #[p.x,p.y],λwq hq0 hq1 hq2 hq3=>?_,hK _ ?_⟩
 ·obtain ⟨y0,y1,y2,y3⟩:=hq0.f;go_simp
 clear hK K;refine FT.flow_run rfl (λK hK=>?_);go_simp;refine ⟨.agg #[q.x,q.y],λwq hq0 hq1 hq2 hq3=>?_,hK _ ?_⟩
 ·obtain ⟨y0,y1,y2,y3⟩:=hq1.f;go_simp
 clear hK K;refine FT.flow_run rfl (λK hK=>?_);go_simp;refine ⟨.agg #[C.x,C.y],λwq hq0 hq1 hq2 hq3=>?_,hK _ ?_⟩
 ·obtain ⟨y0,y1,y2,y3⟩:=hq2.f;go_simp
 clear hK K;refine FT.flow_run rfl (λK hK=>?_);go_simp;refine ⟨.agg #[D.x,D.y],λwq hq0 hq1 hq2 hq3=>?_,hK _ ?_⟩
 ·obtain ⟨y0,y1,y2,y3⟩:=hq3.f;go_simp
 clear hK K;refine FT.flow_at hCl rfl trivial (λwc hwc K hK=>?_);go_simp;refine (cc _).mono ?_;rintro e w9 ⟨rfl,hb9⟩;have hb8:=Below.trans hwc (hb9.mono (Below.size hwc));replace Ga:=Ga.ee hb8;replace Gb:=Gb.ee hb8;replace Gc:=Gc.ee hb8;replace Gd:=Gd.ee hb8;replace hw:=upB hw hb8;clear hwc hb9 hb8;go_simp;refine hK _ _ ⟨Ga,Gb,Gc,Gd⟩ ?_;clear hK K
 (refine FT.flow_run rfl (λK hK=>?_);go_simp;first | (refine hK _ ?_;clear hK K) | (refine ⟨_,λ_ _ _ _ _=>rfl,hK _ ?_⟩;clear hK K))
 refine FT.flow_at hCl rfl trivial (λwc hwc K hK=>?_);go_simp;replace Ga:=Ga.ee hwc;replace Gb:=Gb.ee hwc;replace Gc:=Gc.ee hwc;replace Gd:=Gd.ee hwc;replace hw:=upB hw hwc;clear hwc;obtain ⟨y0,y1,y2,y3⟩:=Gc.f;go_simp;clear y0 y1 y2 y3;have hN:Below w w ((wc.setCell ⟨w+1+1,0,none⟩ (.int .i64 C.x)).setCell ⟨w+1+1,1,none⟩ (.int .i64 C.y)):=by have hl:=hw.size;go_grown
 replace Ga:Box ((wc.setCell ⟨w+1+1,0,none⟩ (.int .i64 C.x)).setCell ⟨w+1+1,1,none⟩ (.int .i64 C.y)) (w.heap.size) [p.x,p.y] 26:=((Ga.set_ne ⟨w+1+1,0,none⟩ (.int .i64 C.x) (by first | assumption | (show (w.heap.size+1+1:Nat)≠_;omega))).set_ne ⟨w+1+1,1,none⟩ (.int .i64 C.y) (by first | assumption | (show (w.heap.size+1+1:Nat)≠_;omega)));replace Gb:Box ((wc.setCell ⟨w+1+1,0,none⟩ (.int .i64 C.x)).setCell ⟨w+1+1,1,none⟩ (.int .i64 C.y)) (w.heap.size+1) [q.x,q.y] 26:=((Gb.set_ne ⟨w+1+1,0,none⟩ (.int .i64 C.x) (by first | assumption | (show (w.heap.size+1+1:Nat)≠_;omega))).set_ne ⟨w+1+1,1,none⟩ (.int .i64 C.y) (by first | assumption | (show (w.heap.size+1+1:Nat)≠_;omega)));replace Gc:Box ((wc.setCell ⟨w+1+1,0,none⟩ (.int .i64 C.x)).setCell ⟨w+1+1,1,none⟩ (.int .i64 C.y)) (w.heap.size+1+1) [C.x,C.y] 26:=((Gc.set 0 (.int .i64 C.x)).set 1 (.int .i64 C.y));replace Gd:Box ((wc.setCell ⟨w+1+1,0,none⟩ (.int .i64 C.x)).setCell ⟨w+1+1,1,none⟩ (.int .i64 C.y)) (w.heap.size+1+1+1) [D.x,D.y] 26:=((Gd.set_ne ⟨w+1+1,0,none⟩ (.int .i64 C.x) (by first | assumption | (show (w.heap.size+1+1:Nat)≠_;omega))).set_ne ⟨w+1+1,1,none⟩ (.int .i64 C.y) (by first | assumption | (show (w.heap.size+1+1:Nat)≠_;omega)));generalize ((wc.setCell ⟨w+1+1,0,none⟩ (.int .i64 C.x)).setCell ⟨w+1+1,1,none⟩ (.int .i64 C.y))=wd at *
 replace hw:=hN;clear hN;refine hK _ _ ⟨Ga,Gb,Gc,Gd⟩ ?_;clear hK K;refine FT.flow_at hCl rfl trivial (λwc hwc K hK=>?_);go_simp;replace Ga:=Ga.ee hwc;replace Gb:=Gb.ee hwc;replace Gc:=Gc.ee hwc;replace Gd:=Gd.ee hwc;replace hw:=upB hw hwc;clear hwc;obtain ⟨y0,y1,y2,y3⟩:=Gd.f;go_simp;clear y0 y1 y2 y3;have hN:Below w w ((wc.setCell ⟨w+1+1+1,0,none⟩ (.int .i64 D.x)).setCell ⟨w+1+1+1,1,none⟩ (.int .i64 D.y)):=by have hl:=hw.size;go_grown
 replace Ga:Box ((wc.setCell ⟨w+1+1+1,0,none⟩ (.int .i64 D.x)).setCell ⟨w+1+1+1,1,none⟩ (.int .i64 D.y)) (w.heap.size) [p.x,p.y] 26:=((Ga.set_ne ⟨w+1+1+1,0,none⟩ (.int .i64 D.x) (by first | assumption | (show (w.heap.size+1+1+1:Nat)≠_;omega))).set_ne ⟨w+1+1+1,1,none⟩ (.int .i64 D.y) (by first | assumption | (show (w.heap.size+1+1+1:Nat)≠_;omega)));replace Gb:Box ((wc.setCell ⟨w+1+1+1,0,none⟩ (.int .i64 D.x)).setCell ⟨w+1+1+1,1,none⟩ (.int .i64 D.y)) (w.heap.size+1) [q.x,q.y] 26:=((Gb.set_ne ⟨w+1+1+1,0,none⟩ (.int .i64 D.x) (by first | assumption | (show (w.heap.size+1+1+1:Nat)≠_;omega))).set_ne ⟨w+1+1+1,1,none⟩ (.int .i64 D.y) (by first | assumption | (show (w.heap.size+1+1+1:Nat)≠_;omega)));replace Gc:Box ((wc.setCell ⟨w+1+1+1,0,none⟩ (.int .i64 D.x)).setCell ⟨w+1+1+1,1,none⟩ (.int .i64 D.y)) (w.heap.size+1+1) [C.x,C.y] 26:=((Gc.set_ne ⟨w+1+1+1,0,none⟩ (.int .i64 D.x) (by first | assumption | (show (w.heap.size+1+1+1:Nat)≠_;omega))).set_ne ⟨w+1+1+1,1,none⟩ (.int .i64 D.y) (by first | assumption | (show (w.heap.size+1+1+1:Nat)≠_;omega)));replace Gd:Box ((wc.setCell ⟨w+1+1+1,0,none⟩ (.int .i64 D.x)).setCell ⟨w+1+1+1,1,none⟩ (.int .i64 D.y)) (w.heap.size+1+1+1) [D.x,D.y] 26:=((Gd.set 0 (.int .i64 D.x)).set 1 (.int .i64 D.y));generalize ((wc.setCell ⟨w+1+1+1,0,none⟩ (.int .i64 D.x)).setCell ⟨w+1+1+1,1,none⟩ (.int .i64 D.y))=wd at *
 replace hw:=hN;clear hN;refine hK _ _ ⟨Ga,Gb,Gc,Gd⟩ ?_;clear hK K;clear Ba Bb Bc Bd;intro wz hwz;simp only [dP1,dP0];replace Ga:=Ga.ee hwz;replace Gb:=Gb.ee hwz;replace Gc:=Gc.ee hwz;replace Gd:=Gd.ee hwz;replace hw:=upB hw hwz;clear hwz hCl;have Ba:=Ga;have Bb:=Gb;have Bc:=Gc;have Bd:=Gd;clear Ga Gb Gc Gd;have Fc:=Bc.f;have Fd:=Bd.f;go_wp2;refine bodyPost_ret (v:=.tuple #[C,D,.bool (decide (circ p q C D=1))]) (by simp [results,results134,go_sem,Fc,Fd];rfl) rfl ⟨rfl,by have hl:=hw.size;go_grown⟩
theorem XI (mb b:Nat) (E:Es) (sb:Nat) (a0:Option Addr) (c n:Nat) (Lw:List Wl) (p q:Pt) (hk:okW (p,q)) (w:World) (Bm:Box w mb [.map (some b)] 102) (Hm:Hs w b E) (S:SetRd w sb a0 c n Lw):Calls prog 134 #[pt0 mb,pt0 sb,p,q] w (Rt w (.tuple #[.agg #[.int .i64 (badC E Lw p q).1.x,.int .i64 (badC E Lw p q).1.y],.agg #[.int .i64 (badC E Lw p q).2.x,.int .i64 (badC E Lw p q).2.y],.bool (badP E Lw p q)])):=by
 unfold badP badC;cases h1:lftE E p q with
 | mk X v1=>
  cases h2:lftE E q p with
  | mk Y v2=>
   cases v1 with
   | false=>simpa using fbad_a mb b E sb a0 c n Lw p q hk X Y h1 v2 h2 w Bm Hm S
   | true=>
    cases v2 with
    | false=>simpa using fbad_b mb b E sb a0 c n Lw p q hk X Y h1 h2 w Bm Hm S
    | true=>
     by_cases h3:kindW Lw (lo2 p q) (hi2 p q)=0
     ·simpa [h3] using fbad_d mb b E sb a0 c n Lw p q hk X Y h1 h2 h3 _ _ rfl rfl w Bm Hm S
     ·simpa [h3] using fbad_c mb b E sb a0 c n Lw p q hk X Y h1 h2 h3 w Bm Hm S
def upF (E:Es) (Lw:List Wl) (T:Tri3) (i:Nat):Bool := !decide (0 < cmpP (crn T i) (crn T (i+1))) && badP E Lw (crn T i) (crn T (i+1))
def upW (T:Tri3) (i:Nat):Wl:=mkW (crn T i) (crn T (i+1)) 1
def upL (E:Es) (Lw:List Wl) (T:Tri3) (k:Nat):List Wl:=((List.range k).filter (upF E Lw T)).map (upW T)
theorem ZH (E:Es) (Lw:List Wl) (T:Tri3) (k:Nat):(upL E Lw T k).length<=k:=by
 unfold upL;rw [Qq];exact JQ (Qe _ _) (by simp)
theorem upL_yes {E:Es} {Lw:List Wl} {T:Tri3} {k:Nat} (h:upF E Lw T k=true):upL E Lw T (k+1)=upL E Lw T k ++ [upW T k]:=by
 unfold upL;rw [VA,QV,QA];simp [h]
theorem upL_no {E:Es} {Lw:List Wl} {T:Tri3} {k:Nat} (h:upF E Lw T k=false):upL E Lw T (k+1)=upL E Lw T k:=by
 unfold upL;rw [VA,QV,QA];simp [h]
theorem KL (mb b:Nat) (E:Es) (sb:Nat) (a0:Option Addr) (c n:Nat) (Lw:List Wl) (T:Tri3) (hT:okT T) (w:World) (Bm:Box w mb [.map (some b)] 102) (Hm:Hs w b E) (S:SetRd w sb a0 c n Lw):Calls prog 133 #[pt0 mb,pt0 sb,T] w λe w'=>∃ v,e=.returned v/\WRow w' w.heap.size v (upL E Lw T 3)/\Below w w w':=by
 have HT:=hdd hT;clear hT
 go_enter func133,ntmps133
 go_wp2_with fail;refine zG λW1 hW=>?_;have BT:Box W1 w [T.A.x,T.A.y,T.B.x,T.B.y,T.C.x,T.C.y] 28:=by rw [hW];exact Box.new rfl
 have hw:Below w w W1:=by rw [hW];go_grown
 clear hW
 go_loopw [7,8,13,15,16] (λvl _ _ _ vi wr=>∃ k:Nat,k<=3/\vi=.int .i64 k/\WRow wr (w.heap.size+1) vl (upL E Lw T k)/\Below w w wr/\Box wr w [T.A.x,T.A.y,T.B.x,T.B.y,T.C.x,T.C.y] 28) (λ_ _ _ _ vi _=>3 - (intOf vi).toNat)
 case atStart=>exact ⟨0,by omega,rfl,WRow.nil0 _ _,hw,BT⟩
 case round=>
  clear BT hw;obtain ⟨k,hk,rfl,hown,hwr,BT⟩:=hrel;by_cases hlt:k < 3
  ·have hko:=K6 HT.o (k:Int);have hko2:=K6 HT.o ((k:Int)+1);have HKO:=hdd (show okW (crn T k,crn T ((k:Int)+1)) from ⟨hko,hko2⟩);have ce:=λW=>ZB T (k:Int) W;have hle:(upL E Lw T k).length<=1000000:=JQ (ZH _ _ _ _) (by omega);have hlt3:(k:Int) < 3:=by omega
   have HF:=hdd (show upF E Lw T k=(!decide (0 < cmpP (crn T k) (crn T ((k:Int)+1))) && badP E Lw (crn T k) (crn T ((k:Int)+1))) from rfl);have HU:=hdd (show upW T k=mkW (crn T k) (crn T ((k:Int)+1)) 1 from rfl);have HB:=hdd (show w.heap.size+1<=wr.heap.size from BT.lt);have hw:=Below.refl wr.heap.size wr;generalize crn T (k:Int)=P at *
   generalize crn T ((k:Int)+1)=Q at *
   have cc:=λW=>zn P Q W;have cb:=λW B H D=>XI mb b E sb a0 c n Lw P Q HKO.o W B H D;have cm:=λW=>qt P Q 1 W;clear hko hko2;have FT:=BT.f;go_wp2_with fail;clear FT;refine qC1 (ce _) BT hw λw21 BT hw FT=>?_;go_wp2_with fail;clear FT;refine zI λW22 hW=>?_;obtain ⟨bkP,hbP⟩:∃ b,w21.heap.size=b:=⟨_,rfl⟩;rw [hbP];have lTP:=BT.lt;rw [hbP] at lTP;have fP:=hw.size;rw [hbP] at fP;have BP:Box W22 (bkP) [P.x,P.y] 26:=by rw [hW,<-hbP];exact (Box.new rfl).old _
   have BQ:Box W22 (bkP+1) [Q.x,Q.y] 26:=by rw [hW,<-hbP];exact Box.new (by simp)
   replace BT:Box W22 w [T.A.x,T.A.y,T.B.x,T.B.y,T.C.x,T.C.y] 28:=by rw [hW];exact ((BT).old _).old _
   replace hw:Below wr wr W22:=by have hl:=hw.size;rw [hW];go_grown
   clear hW hbP;refine qK3 (cc _) BT BP BQ hw λw23 BT BP BQ hw=>?_;clear cc ce;cases hc:decide (0 < cmpP P Q)
   case true=>
    have HN:=hdd (upL_no (E:=E) (Lw:=Lw) (T:=T) (k:=k) (by rw [HF.o,hc];rfl));generalize cmpP P Q=z at *
    have hwx:=(upB hwr hw);have FT:=BT.f;have FP:=BP.f;have FQ:=BQ.f;go_wp2;clear FT FP FQ
    go_roundw
    case rel=>exact ⟨k+1,hlt,by go_num,by rw [HN.o];exact hown.ee hw,hwx,BT⟩
    case measure=>simp [intOf];omega
   case false=>
    have HC:=hdd hc;generalize cmpP P Q=z at *
    have Hu:=J3 BT.f BP.f BQ.f;go_wp2_with fail;clear Hu;have hwx:=(upB hwr hw);refine qK3 (cb _ (Bm.ee hwx) (Hm.ee hwx) (S.ee hwx)) BT BP BQ hw λw24 BT BP BQ hw=>?_;clear cb hwx;have HV:=hdd (show upF E Lw T k=badP E Lw P Q by rw [HF.o,HC.o];rfl);generalize badP E Lw P Q=bb at *
    generalize badC E Lw P Q=bc at *
    cases bb
    case false=>
     have HN:=hdd (upL_no (E:=E) (Lw:=Lw) (T:=T) (k:=k) HV.o);have HT9:=BT;have hwx:=(upB hwr hw);have FT:=BT.f;have FP:=BP.f;have FQ:=BQ.f;go_wp2;clear FT FP FQ
     go_roundw
     case rel=>exact ⟨k+1,hlt,by go_num,by rw [HN.o];exact ((hown.ee hw).alloc _).alloc _,by have hl:=hwx.size;go_grown,(HT9.old _).old _⟩
     case measure=>simp [intOf];omega
    case true=>
     have HN:=hdd (upL_yes (E:=E) (Lw:=Lw) (T:=T) (k:=k) HV.o);have sT:(w.heap.size=w24.heap.size+1)=False:=by have:=BT.lt;simp;omega
     have sP:(bkP=w24.heap.size+1)=False:=by have:=BP.lt;simp;omega
     have sQ:(bkP+1=w24.heap.size+1)=False:=by have:=BQ.lt;simp;omega
     have Hu:=J3 BT.f BP.f BQ.f;go_wp2_with fail;clear Hu;clear sT sP sQ;refine zI λW25 hW=>?_;obtain ⟨bkC,hbC⟩:∃ b,w24.heap.size=b:=⟨_,rfl⟩;rw [hbC];have lTC:=BT.lt;rw [hbC] at lTC;have lPC:=BP.lt;rw [hbC] at lPC;have lQC:=BQ.lt;rw [hbC] at lQC;have fC:=hw.size;rw [hbC] at fC;have BC:Box W25 (bkC) [.int .i64 bc.1.x,.int .i64 bc.1.y] 26:=by rw [hW,<-hbC];exact (Box.new rfl).old _
     have BD:Box W25 (bkC+1) [.int .i64 bc.2.x,.int .i64 bc.2.y] 26:=by rw [hW,<-hbC];exact Box.new (by simp)
     replace BT:Box W25 w [T.A.x,T.A.y,T.B.x,T.B.y,T.C.x,T.C.y] 28:=by rw [hW];exact ((BT).old _).old _
     replace BP:Box W25 (bkP) [P.x,P.y] 26:=by rw [hW];exact ((BP).old _).old _
     replace BQ:Box W25 (bkP+1) [Q.x,Q.y] 26:=by rw [hW];exact ((BQ).old _).old _
     replace hw:Below wr wr W25:=by have hl:=hw.size;rw [hW];go_grown
     clear hW hbC;refine qK5 (cm _) BT BP BQ BC BD hw λw26 BT BP BQ BC BD hw=>?_;clear cm;generalize mkW P Q 1=X at *
     generalize mkOk P Q 1=ok at *
     have own:=hdd (hown.ee hw);have hlt0:=λq hq=>(hown.lt q hq).1;have HNE:=hdd (show WRow w26 (w.heap.size+1) u7 (upL E Lw T k) from hown.ee hw);have hwx:=(upB hwr hw);have HBT:=hdd BT;have hs2:=hw.size;have hbw:=HB.o;have HWX:=hdd hwx;clear hown hwr;have FT:=BT.f;have FP:=BP.f;have FQ:=BQ.f;have FC:=BC.f;have FD:=BD.f;go_wp2_with (at_builtin;refine jN rfl _ _ rfl (w.heap.size+1) _ (upL E Lw T k) rfl ((HNE.o.alloc _).alloc _) (w26.heap.size+1) X rfl (Box.new (by simp)) hle (by simp;omega) ?_;intro w4 v4 hown4 hg4 hn4)
     clear FT FP FQ FC FD;have BP4:=((HBT.o.old _).old _).grownBy hg4 (λe=>by have:=hlt0 _ e.symm;omega);have hw4:=((HWX.o.alloc HWX.o.size (.cells #[X.A.x,X.A.y,X.B.x,X.B.y,X.K] 57)).alloc (by simp;have:=HWX.o.size;omega) (.cells #[X.A.x,X.A.y,X.B.x,X.B.y,X.K] 57)).grown hg4 (by simp;have:=HWX.o.size;omega) (λq hq=>by have:=hlt0 q hq;omega);clear hg4 hlt0;go_wp2
     go_roundw
     case rel=>exact ⟨k+1,hlt,by go_num,by rw [HN.o,HU.o];exact hown4,hw4,BP4⟩
     case measure=>simp [intOf];omega
  ·obtain rfl:k=3:=by omega
   go_wp2
   go_ret
   exact ⟨_,rfl,hown.base (Nat.le_succ _),hwr⟩
section
open Go.Lib Go.Shelf
theorem those_ok (mb b:Nat) (E:Es) (g:FuncId) (cb:Array Value) (p:Tri3->Bool) (hE:E.length<=1000000) (hok:∀ e∈E,okT e.2) (w:World) (Bm:Box w mb [.map (some b)] 102) (Hm:Hs w b E) (eg:∀ args w,(callFunc g args).run prog w=.ok (.enter g args) w) (hp:∀ (T:Tri3),okT T->∀ (W:World),Below w w W->Calls prog g (#[.agg #[T.A.x,T.A.y,T.B.x,T.B.y,T.C.x,T.C.y]] ++ cb) W λe w'=>e=.returned (.bool (p T))/\Below W W w'):Calls prog 54 #[pt0 mb,.func (.func g) #[] cb] w λe w'=>∃ a cap,e=.returned (.slice a (srt cmpT (heads p E)).length cap)/\RowAt cT 6 w' a (srt cmpT (heads p E))/\Below w w w':=by
 obtain ⟨xm,ym,zm,vm⟩:=Bm.f
 go_enter func54,ntmps54
 go_wp2_with (at_range;refine yJ _ rfl _ rfl kvM rfl Hm ?_)
 intro w0 HR0 hw0 _;clear xm ym zm vm;go_wp2
 go_loopw [5] (λv wr=>∃ D R:Es,Hi ((D ++ R).Perm E)/\wr.ownsRow w.heap.size 28 6 v (heads p D).length ((heads p D).flatMap cT)/\Ranging eW eT okW wr b w.heap.size E R/\Below w w wr) (λ_ wr=>wr.rangeLeft b w.heap.size)
 case atStart=>exact ⟨[],E,hdd (by simp),World.ownsRow_nil _ _ _ _,HR0,hw0⟩
 case round=>
  clear HR0 hw0;obtain ⟨D,R,hD,hown,HR,hw⟩:=hrel;go_wp2_with (at_next;refine yN _ rfl _ rfl rfl HR ?_ ?_)
  ·intro hR;subst hR;have hp0:(heads p D).Perm (heads p E):=xZ (by simpa using hD.o);have hle:(heads p D).length<=3000000:=by have:=hp0.length_eq;have:=yc p E;omega
   have HS:=hdd (wholeT.srt_of_perm hp0);go_wp2_with fail;refine (vw _ _ _ hle _ hown).mono ?_;rintro e w2 ⟨rfl,hg2,a,cap,rfl,hr⟩;go_wp2
   go_ret
   have hlen:(heads p D).length=(srt cmpT (heads p E)).length:=by rw [<-HS.o];exact (zS _).length_eq.symm
   rw [HS.o] at hr;refine ⟨a,cap,by rw [hlen];rfl,hr,hw.grown hg2 hw.size (λk hk=>?_)⟩;exact (hown.lt k hk).1
  ·intro u x T R' w1 hperm HR1 hg1 hs1 hen;have hD2:=hdd (show ((D ++ [((u,x),T)]) ++ R').Perm E by have:=(hperm.append_left D).symm.trans hD.o;simpa using this);have own1:=hown.kept hg1 (.inr (λe=>zv hown HR e.symm));have hw1:=hw.grown hg1 hw.size (λk hk=>by cases hk;exact JA _);have HL:=hdd (show w1.rangeLeft b w.heap.size < wr.rangeLeft b w.heap.size by rw [zT HR1,zT HR,hperm.length_eq];simp);have hen2:(Instr.entry (.pointer (some ⟨w,0,none⟩))).run prog w1=.ok (.tuple #[.agg #[u.x,u.y,x.x,x.y],T]) w1:=hen;have hle:(heads p D).length<=1000000:=by have:=hD2.o.length_eq;have:=yc p D;simp at *;omega
   clear hown HR hg1 hs1 hen hperm hw;have hnx:Hi (∀ W:World,Below w1 w1 W->(W.rangeLeft b w.heap.size < wr.rangeLeft b w.heap.size)):=hdd (λW hW=>by
    rw [zT (HR1.ee hW),<-zT HR1];exact HL.o)
   have HTK:=hdd (show okT T from hok _ (hD2.o.mem_iff.1 (by simp):((u,x),T)∈E));by_cases hA:u=T.A
   ·have hd:peqI u.x u.y T.A.x T.A.y=true:=yw.2 hA;cases hT:p T with
    | false=>
     have HH:=hdd (show heads p (D ++ [((u,x),T)])=heads p D by rw [zp,qw (by simp [hT])];simp);have cp:=λW hW=>hp T HTK.o W hW;rw [hT] at cp;clear hA hT;go_wp2_with fail;refine zI λW2 hW=>?_;have hb2:Below w1 w1 W2:=by rw [hW];go_grown
     clear hW;refine (cp _ ((upB hw1 hb2))).mono ?_;rintro e w3 ⟨rfl,hb⟩;have hb3:=(upB hb2 hb);clear hb hb2;go_wp2
     go_roundw
     case rel=>exact ⟨D ++ [((u,x),T)],R',hD2,by rw [HH.o];exact own1.kept (zM hb3 none) (by cases u5.ownBlock <;> simp),HR1.ee hb3,(upB hw1 hb3)⟩
     case measure=>exact hnx.o _ hb3
    | true=>
     have HH:=hdd (show heads p (D ++ [((u,x),T)])=heads p D ++ [T] by rw [zp,jG hA hT]);have cp:=λW hW=>hp T HTK.o W hW;rw [hT] at cp;clear hA hT;go_wp2_with fail;refine zI λW2 hW=>?_;have hb2:Below w1 w1 W2:=by rw [hW];go_grown
     have Bt:Box W2 (w1+1) (cT T) 28:=by rw [hW];exact Box.new (by simp)
     clear hW;refine (cp _ ((upB hw1 hb2))).mono ?_;rintro e w3 ⟨rfl,hb⟩;have hb3:=(upB hb2 hb);replace Bt:=Bt.ee hb;have own3:=own1.kept (zM hb3 none) (by cases u5.ownBlock <;> simp);have HB:=hdd (JQ hw1.size hb3.size);clear hb hb2;obtain ⟨xt,yt,zt,vt⟩:=Bt.f;unfold cT at xt;go_wp2_with (at_builtin;refine yI rfl _ _ rfl w.heap.size _ (heads p D) rfl (own3.alloc _) w3.heap.size T rfl (Box.new rfl) hle (by have:=HB.o;simp;omega) ?_;intro w4 v4 hown4 hg4)
     have hR3:=(HR1.ee hb3).kept (World.grownBy_alloc w3 (.cells (cT T).toArray 28) none) (by simp) (by simp);have hR4:=hR3.kept hg4 (yF (own3.alloc _) hR3.holds) (zv (own3.alloc _) hR3);have hw4:=((((upB hw1 hb3)).alloc (by have:=HB.o;omega) (.cells (cT T).toArray 28))).grown hg4 (by have:=HB.o;simp;omega) (λk hk=>((own3.alloc (.cells (cT T).toArray 28)).lt k hk).1)
     go_roundw
     case rel=>exact ⟨D ++ [((u,x),T)],R',hD2,by rw [HH.o];exact hown4,hR4,hw4⟩
     case measure=>rw [zT hR4,<-zT HR1];exact HL.o
   ·have hd:peqI u.x u.y T.A.x T.A.y=false:=by rw [<-QF,yw];exact hA
    have HH:=hdd (show heads p (D ++ [((u,x),T)])=heads p D by rw [zp,qw (by simp [hA])];simp);clear hA;go_wp2
    go_roundw
    case rel=>exact ⟨D ++ [((u,x),T)],R',hD2,by rw [HH.o];exact (own1.alloc _).alloc _,HR1.ext (by go_grown) rfl,by have:=hw1.size;go_grown⟩
    case measure=>exact hnx.o _ (by go_grown)
theorem fbadcl_any (mb b:Nat) (E:Es) (sb:Nat) (a0:Option Addr) (c n:Nat) (Lw:List Wl) (b2 b3:Nat) (T:Tri3) (hT:okT T) (w:World) (B2:Box w b2 [pt0 mb] 31) (B3:Box w b3 [pt0 sb] 32) (Bm:Box w mb [.map (some b)] 102) (Hm:Hs w b E) (S:SetRd w sb a0 c n Lw):Calls prog 132 (#[.agg #[T.A.x,T.A.y,T.B.x,T.B.y,T.C.x,T.C.y]] ++ #[.pointer (some ⟨b2,0,none⟩),.pointer (some ⟨b3,0,none⟩)]) w (Rt w (.bool (decide (0 < (upL E Lw T 3).length)))):=by
 have cu:=λW B H D=>KL mb b E sb a0 c n Lw T hT W B H D;have hle:=ZH E Lw T 3;clear hT;generalize upL E Lw T 3=U at *
 show Calls prog 132 #[T,pt0 b2,pt0 b3] w _
 go_enter func132,ntmps132
 have RZ:=J2 B2.f B3.f;go_wp2_with fail;clear RZ;refine zI λW1 hW=>?_;have hw:Below w w W1:=by rw [hW];go_grown
 clear hW;refine (cu _ (Bm.ee hw) (Hm.ee hw) (S.ee hw)).mono ?_;rintro e w2 ⟨v,rfl,hr,hb⟩;replace hw:=upB hw hb;obtain ⟨a,cap,rfl,_,_⟩:=hr.row;clear hb hr cu;obtain ⟨m,hm⟩:∃ m,U.length=m:=⟨_,rfl⟩;rw [hm] at hle;cases hz:decide (0 < m) with
 | true=>
  have hz2:decide ((0:Int) < (m:Int))=true:=by simpa using hz
  go_wp2;refine bodyPost_ret (v:=.bool true) (by simp [results,results132,go_sem]) rfl ⟨by rw [hm,hz],hw⟩
 | false=>
  have hz2:decide ((0:Int) < (m:Int))=false:=by simpa using hz
  go_wp2;refine bodyPost_ret (v:=.bool false) (by simp [results,results132,go_sem]) rfl ⟨by rw [hm,hz],hw⟩
end
section
open Go.Lib Go.Shelf
def bigT (E:Es) (Lw:List Wl):List Tri3:=srt cmpT (heads (λT=>decide (0 < (upL E Lw T 3).length)) E)
def FB (E:Es) (Lw:List Wl):List Wl:=srt cmpW ((bigT E Lw).flatMap λT=>upL E Lw T 3)
theorem heads_in {p:Tri3->Bool} {E:Es} {T:Tri3} (h:T∈heads p E):p T=true/\∃ x,((T.A,x),T)∈E:=by
 unfold heads at h;obtain ⟨⟨⟨u,x⟩,S⟩,he,rfl⟩:=JN.1 h;obtain ⟨he,hc⟩:=JS.1 he;simp only [Ko,Kn] at hc;exact ⟨hc.2,x,by rw [<-hc.1];exact he⟩
theorem append_wrow {w:World} {ops:Array Oper} {rest:List Oper} {o:Oper} {a:Act} {Q:Exit->Act->World->Prop} (hgd:o.guard=none) (s x:Operand) (ho:o.op=.call { callee:=.builtin .append,args:=#[s,x],argTypes:=#[48,48] }) (B:Nat) (v:Value) (L:List Wl) (hs:a.eval s=v) (hown:WRow w B v L) (bx cap:Nat) (U:List Wl) (hx:a.eval x=.slice (some ⟨bx,0,none⟩) U.length cap) (hU:RowAt cW 5 w (some ⟨bx,0,none⟩) U) (hu0:U.length<=1000) (hn:L.length<=1000000) (hbase:B<=w.heap.size) (h:∀ w' v',WRow w' B v' (L ++ U)->w.grownBy w' v.ownBlock->wpList prog ops Q rest (a.put o.dst v') w'):wpList prog ops Q (o :: rest) a w:=by
 obtain ⟨i0,hi,hz0,hz1,hz2⟩:=info_parts xR;refine wpList_append_own w hgd s x 48 ho B 57 i0 _ 5 40 underlying48 hi hz0 hz1 hz2 rfl (by decide) v L.length _ hs hown ⟨bx,0,none⟩ U.length cap (U.flatMap cW) hx (zR yR U) ?_ ?_ ?_ ?_ hbase ?_
 ·intro j u hj;rw [Addr.add_lit,Q9];have:=(hU.flat j u hj).2
  rwa [Q9] at this
 ·intro u hu;obtain ⟨X,_,hX⟩:=JH.1 hu;exact j0 X u hX
 ·unfold maxLen;omega
 ·omega
 ·intro v' w' hown' hg _;refine h w' v' ?_ hg;unfold WRow;rw [Kp,JW];exact hown'
theorem enterBad:∀ args w,(callFunc 132 args).run prog w=.ok (.enter 132 args) w:=enters_of func132 (by kernel_rfl) rfl
theorem flat_take {L:List Tri3} {f:Tri3->List Wl} {k:Nat} (hk:k < L.length):(L.take (k+1)).flatMap f=(L.take k).flatMap f ++ f L[k]:=by
 rw [JD hk,JW];simp
theorem Zu (E:Es) (Lw:List Wl):∀ L:List Tri3,(L.flatMap λT=>upL E Lw T 3).length<=3 * L.length
 | []=>by simp
 | T :: L=>by
  have h1:=ZH E Lw T 3;have h2:=Zu E Lw L;rw [Ks,Kp,JO];omega
theorem fBad_any (mb b:Nat) (E:Es) (sb:Nat) (a0:Option Addr) (c n:Nat) (Lw:List Wl) (hE:E.length<=90000) (hok:∀ e∈E,okT e.2) (w:World) (Bm:Box w mb [.map (some b)] 102) (Hm:Hs w b E) (S:SetRd w sb a0 c n Lw):Calls prog 86 #[pt0 mb,pt0 sb] w λe w'=>∃ v,e=.returned v/\WRow w' w.heap.size v (FB E Lw)/\Below w w w':=by
 have HOK:=hdd (show ∀ T∈bigT E Lw,okT T/\0 < (upL E Lw T 3).length from λT hT=>by
  obtain ⟨k1,x,k2⟩:=heads_in ((zS _).mem_iff.1 hT);exact ⟨hok _ k2,by simpa using k1⟩)
 have hlen:(bigT E Lw).length<=90000:=by
  unfold bigT;rw [(zS _).length_eq];exact JQ (yc _ _) hE
 have HFB:=hdd (show FB E Lw=srt cmpW ((bigT E Lw).flatMap λT=>upL E Lw T 3) from rfl);have ct:=λW1 (hW1:Below w w W1) (b2 b3:Nat) (B2:Box W1 b2 [pt0 mb] 31) (B3:Box W1 b3 [pt0 sb] 32)=>those_ok mb b E 132 #[pt0 b2,pt0 b3] (λT=>decide (0 < (upL E Lw T 3).length)) (by omega) hok W1 (Bm.ee hW1) (Hm.ee hW1) enterBad (λT hT W hW=>fbadcl_any mb b E sb a0 c n Lw b2 b3 T hT W (B2.ee hW) (B3.ee hW) ((Bm.ee hW1).ee hW) ((Hm.ee hW1).ee hW) ((S.ee hW1).ee hW))
 change ∀ W1 (hW1:Below w w W1) (b2 b3:Nat) (B2:Box W1 b2 [pt0 mb] 31) (B3:Box W1 b3 [pt0 sb] 32),Calls _ _ _ _ (λe w'=>∃ a cap,e=.returned (.slice a (bigT E Lw).length cap)/\RowAt cT 6 w' a (bigT E Lw)/\Below W1 W1 w') at ct
 generalize bigT E Lw=L at *
 generalize FB E Lw=F at *
 obtain ⟨m,hm⟩:∃ m,L.length=m:=⟨_,rfl⟩;rw [hm] at ct hlen;have HM:=hdd hm;clear hok hE hm
 go_enter func86,ntmps86
 go_wp2_with fail;refine zI λW1 hW=>?_;have B2:Box W1 w [pt0 mb] 31:=by rw [hW];exact (Box.new rfl).old _
 have B3:Box W1 (w+1) [pt0 sb] 32:=by rw [hW];exact Box.new (by simp)
 have hw:Below w w W1:=by rw [hW];go_grown
 clear hW;refine (ct _ hw _ _ B2 B3).mono ?_;rintro e w2 ⟨a,cap,rfl,hr,hb⟩;obtain ⟨B2,B3,hw,-⟩:=qX2 B2 B3 hw hb;clear hb ct;go_wp2_with fail
 go_loopw [6,14] (λvl vi wr=>∃ k:Nat,k<=m/\vi=.int .i64 k/\WRow wr w2.heap.size vl ((L.take k).flatMap λT=>upL E Lw T 3)/\Below w2 w2 wr) (λ_ vi _=>m - (intOf vi).toNat)
 case atStart=>exact ⟨0,JZ _,rfl,by simpa using WRow.nil0 _ _,Below.refl _ _⟩
 case round=>
  obtain ⟨k,hk,rfl,hown,hwr⟩:=hrel;by_cases hlt:k < m
  ·have hkL:k < L.length:=by rw [HM.o];exact hlt
   obtain ⟨ad,A,ea,eA,hA⟩:=(hr.ee hwr).six (j:=k) hkL;have HF:=hdd (flat_take (f:=λT=>upL E Lw T 3) hkL);have hle:((L.take k).flatMap λT=>upL E Lw T 3).length<=1000000:=JQ (Zu E Lw _) (by rw [JV];omega);obtain ⟨hokT,hpos⟩:=HOK.o _ (JP hkL);have hpos:=hdd hpos;generalize L[k]=T at *
   have cu:=λW B H D=>KL mb b E sb a0 c n Lw T hokT W B H D;have hu3:=ZH E Lw T 3;generalize upL E Lw T 3=U at *
   have hwx:=(upB hw hwr);obtain ⟨t6,t0,t1,t2,t3,t4,t5⟩:=hA.f;obtain ⟨x2,y2,z2,v2⟩:=(B2.ee hwr).f;obtain ⟨x3,y3,z3,v3⟩:=(B3.ee hwr).f;subst ea;go_wp2_with fail;clear t6 t0 t1 t2 t3 t4 t5 x2 y2 z2 v2 x3 y3 z3 v3 hA;refine zI λW4 hW=>?_;have h4:Below wr wr W4:=by rw [hW];go_grown
   clear hW;refine (cu _ ((Bm.ee hwx).ee h4) ((Hm.ee hwx).ee h4) ((S.ee hwx).ee h4)).mono ?_;rintro e w5 ⟨v5,rfl,hr5,hb5⟩;have h5:=(upB h4 hb5);obtain ⟨a5,cap5,rfl,ra5,fl5⟩:=hr5.row;obtain ⟨bb,hbb⟩:∃ bb,a5=some ⟨bb,0,none⟩:=by
    rcases hr5.2 with ⟨h0,h1⟩ | ⟨g,cap',cur,h0,_⟩
    ·have:=hpos.o;omega
    ·simp only [Value.slice.injEq] at h0;exact ⟨g,h0.1⟩
   subst hbb;have hown5:=hown.ee h5;have hlt0:=λq hq=>(hown.lt q hq).1;have hs5:=h5.size;have hsr:=hwr.size;have hwr5:=(upB hwr h5);clear cu h4 hb5 hr5 fl5 hown h5;go_wp2_with (at_builtin;refine append_wrow rfl _ _ rfl w2.heap.size _ _ rfl hown5 bb cap5 U rfl ra5 (by omega) hle (by omega) ?_;intro w6 v6 hown6 hg6)
   have hw6:=hwr5.grown hg6 hwr5.size (λq hq=>by have:=hlt0 q hq;omega);clear hg6 hlt0 hwr5 hown5;go_wp2
   go_roundw
   case rel=>exact ⟨k+1,hlt,by go_num,by rw [HF.o];exact hown6,hw6⟩
   case measure=>simp [intOf];omega
  ·obtain rfl:k=m:=by omega
   rw [JM (by rw [HM.o];omega)] at hown;have hle:(L.flatMap λT=>upL E Lw T 3).length<=3000000:=JQ (Zu E Lw _) (by rw [HM.o];omega);have hwx:=(upB hw hwr);go_wp2_with fail;refine (ZP _ _ _ hle _ hown).mono ?_;rintro e w7 ⟨rfl,hg7,hr7⟩;have hlt0:=λq hq=>(hown.lt q hq).1;have hs2:=hw.size;have hw7:=hwx.grown hg7 hwx.size (λq hq=>by have:=hlt0 q hq;omega);go_wp2
   go_ret
   exact ⟨_,rfl,by rw [HFB.o];exact hr7.base hs2,hw7⟩
end
def P4 (a b c d:Pt) (x y z v:Int):Int:=det d b c * x+det a d c * y+det a b d * z - det a b c * v
theorem P4_cyc (a b c d:Pt) (x y z v:Int):P4 b c a d y z x v=P4 a b c d x y z v:=by
 unfold P4;have e1:det d c a=det a d c:=by unfold det;grind
 have e2:det b d a=det a b d:=by unfold det;grind
 have e3:det b c d=det d b c:=by unfold det;grind
 have e4:det b c a=det a b c:=zW a b c;rw [e1,e2,e3,e4];omega
def mid (a b:Pt) (s t:Int):Pt:=⟨s * a.x+t * b.x,s * a.y+t * b.y⟩
theorem Yn (a b:Pt) (s t:Int):mid b a t s=mid a b s t:=by unfold mid;rw [UA,UA (t * b.y)]
def low (h:Pt->Int) (M s t:Int) (a b:Pt) (T:Tri3):Prop:=P4 (sc M T.A) (sc M T.B) (sc M T.C) (mid a b s t) (M * h T.A) (M * h T.B) (M * h T.C) (s * h a+t * h b) < 0
theorem ky {h:Pt->Int} {M s t:Int} {a b x y z:Pt} {T:Tri3} (hc:Cyc T x y z):low h M s t a b T↔P4 (sc M x) (sc M y) (sc M z) (mid a b s t) (M * h x) (M * h y) (M * h z) (s * h a+t * h b) < 0:=by
 unfold low;rcases hc with ⟨rfl,rfl,rfl⟩ | ⟨rfl,rfl,rfl⟩ | ⟨rfl,rfl,rfl⟩
 ·exact UC
 ·rw [P4_cyc (sc M T.A) (sc M T.B) (sc M T.C)]
 ·rw [P4_cyc (sc M T.C) (sc M T.A) (sc M T.B)]
def dead (h:Pt->Int) (L:List Tri3) (a b:Pt):Prop:=∃ s t:Int,0 < s/\0 < t/\∃ T∈L,hasM (s+t) T (mid a b s t)/\low h (s+t) s t a b T
theorem near3_add {M N:Int} {a b c p v u:Pt} (hN:0<=N) (h:near3 M a b c p v) (h1:det (sc M a) (sc M b) p=0->0<=crd a b u) (h2:det (sc M b) (sc M c) p=0->0<=crd b c u) (h3:det (sc M c) (sc M a) p=0->0<=crd c a u):near3 M a b c p ⟨v.x+N * u.x,v.y+N * u.y⟩:=by
 have key:∀ x y:Pt,crd x y ⟨v.x+N * u.x,v.y+N * u.y⟩=crd x y v+N * crd x y u:=λx y=>by unfold crd;grind
 have one:∀ x y:Pt,(0 < det (sc M x) (sc M y) p\/(det (sc M x) (sc M y) p=0/\0 < crd x y v))->(det (sc M x) (sc M y) p=0->0<=crd x y u)->(0 < det (sc M x) (sc M y) p\/(det (sc M x) (sc M y) p=0/\0 < crd x y ⟨v.x+N * u.x,v.y+N * u.y⟩)):=by
  intro x y k1 k2;rcases k1 with k | ⟨k,k3⟩
  ·exact .inl k
  ·refine .inr ⟨k,?_⟩;have:=Kr hN (k2 k);rw [key];omega
 exact ⟨one _ _ h.1 h1,one _ _ h.2.1 h2,one _ _ h.2.2 h3⟩
theorem sc_crd (M:Int) (x y p q:Pt):det (sc M x) (sc M y) (sc M q)=det (sc M x) (sc M y) p+M * crd x y ⟨M * q.x - p.x,M * q.y - p.y⟩:=by unfold det sc crd;grind
section
variable {W H:Int} {L:List Tri3} (t:Tiles W H L) {h:Pt->Int}
include t
theorem Tiles.alive_left {a b q:Pt} {s r:Int} (hs:0 < s) (hr:0 < r) (hm:(a,b)∈L.flatMap ways) {T:Tri3} (hT:T∈L) (hq:isCnr T q) (h1:0 < det a b q) (h2:hasM (s+r) T (mid a b s r)) (h3:low h (s+r) s r a b T):False:=by
 obtain ⟨X,hX,c,cX,pX⟩:=t.way_of hm;obtain ⟨M,eM⟩:∃ M,s+r=M:=⟨_,rfl⟩;have hM:0 < M:=by omega
 obtain ⟨m,em⟩:∃ m,mid a b s r=m:=⟨_,rfl⟩;have e1:det (sc M a) (sc M b) m=0:=by rw [<-em,<-eM];unfold det sc mid;grind
 have e2:det (sc M b) (sc M c) m=M * (s * det a b c):=by rw [<-em,<-eM];unfold det sc mid;grind
 have e3:det (sc M c) (sc M a) m=M * (r * det a b c):=by rw [<-em,<-eM];unfold det sc mid;grind
 rw [eM,em] at h2;rw [eM] at h3;have pT:=t.pos T hT;have n0:=uL hM pT h2;obtain ⟨v0,ev0⟩:∃ v0:Pt,(⟨M * (T.A.x+T.B.x+T.C.x) - 3 * m.x,M * (T.A.y+T.B.y+T.C.y) - 3 * m.y⟩:Pt)=v0:=⟨_,rfl⟩;rw [ev0] at n0;obtain ⟨u,eu⟩:∃ u:Pt,(⟨M * q.x - m.x,M * q.y - m.y⟩:Pt)=u:=⟨_,rfl⟩;have sgn2:∀ x y:Pt,0<=det x y q->det (sc M x) (sc M y) m=0->0<=crd x y u:=by
  intro x y k1 k2;have k3:=sc_crd M x y m q;rw [eu,k2,Xj,Vg] at k3;have k4:=Kr (JT hM) k1;have k5:M * det x y q=crd x y u:=Int.eq_of_mul_eq_mul_left (by omega) k3;omega
 obtain ⟨N,eN⟩:∃ N:Int,((crd a b v0).natAbs:Int)+1=N:=⟨_,rfl⟩;have hN:0<=N:=by omega
 have hcA:0<=det T.A T.B q/\0<=det T.B T.C q/\0<=det T.C T.A q:=(Y6 pT hq).1;have n1:near M T m ⟨v0.x+N * u.x,v0.y+N * u.y⟩:=near3_add hN n0 (sgn2 _ _ hcA.1) (sgn2 _ _ hcA.2.1) (sgn2 _ _ hcA.2.2);have hcu:0 < crd a b u:=by
  have k3:=sc_crd M a b m q;rw [eu,e1,Xj,Vg] at k3;have k5:M * det a b q=crd a b u:=Int.eq_of_mul_eq_mul_left (by omega) k3;have:=JI hM h1;omega
 have hcv:0 < crd a b ⟨v0.x+N * u.x,v0.y+N * u.y⟩:=by
  have e:crd a b ⟨v0.x+N * u.x,v0.y+N * u.y⟩=crd a b v0+N * crd a b u:=by unfold crd;grind
  have k:N<=N * crd a b u:=by
   have:=Q8 (show 1<=crd a b u by omega) hN;omega
  omega
 have n2:near M X m ⟨v0.x+N * u.x,v0.y+N * u.y⟩:=cX.near ⟨.inr ⟨e1,hcv⟩,.inl (by rw [e2];exact JI hM (JI hs pX)),.inl (by rw [e3];exact JI hM (JI hr pX))⟩;have e:=t.same hX hT hM n2 n1;subst e;rw [ky cX] at h3;have z:P4 (sc M a) (sc M b) (sc M c) (mid a b s r) (M * h a) (M * h b) (M * h c) (s * h a+r * h b)=0:=by
  rw [<-eM];generalize h a=x
  generalize h b=y
  generalize h c=z
  unfold P4 det sc mid;grind
 rw [z] at h3;omega
theorem Tiles.not_dead {a b:Pt} (he:edgeL L a b):¬ dead h L a b:=by
 rintro ⟨s,r,hs,hr,T,hT,h2,h3⟩;obtain ⟨⟨ba,bb⟩,_,nab⟩:=t.edge_box he;have main:∀ {a b q:Pt} {s r:Int},edgeL L a b->0 < s->0 < r->isCnr T q->0 < det a b q->hasM (s+r) T (mid a b s r)->low h (s+r) s r a b T->False:=by
  intro a b q s r he hs hr hq hd h2 h3;rcases he with he | he
  ·exact t.alive_left hs hr he hT hq hd h2 h3
  ·rcases t.rim _ he with k | k
   ·exact t.alive_left hs hr k hT hq hd h2 h3
   ·obtain ⟨X,hX,c,cX,pX⟩:=t.way_of he;obtain ⟨y,z,k2⟩:=qo hq;have k3:0<=det b a q:=uE k pX (t.cyc_box hX cX.turn.turn) (t.cyc_box hT k2);have e:=zV a b q;omega
 have nz:∃ q,isCnr T q/\det a b q≠0:=by
  refine QD λhn=>?_;have z:∀ q,isCnr T q->det a b q=0:=λq hq=>QD λk=>hn ⟨q,hq,k⟩;have zA:=z T.A (.inl rfl);have zB:=z T.B (.inr (.inl rfl));have zC:=z T.C (.inr (.inr rfl));have e:∀ x:Pt,crd a b ⟨x.x - T.A.x,x.y - T.A.y⟩=det a b x - det a b T.A:=λx=>by unfold crd det;grind
  exact tz nab (t.pos T hT) (by rw [e];omega) (by rw [e];omega)
 obtain ⟨q,hq,hd⟩:=nz;by_cases hp:0 < det a b q
 ·exact main he hs hr hq hp h2 h3
 ·refine main he.turn hr hs hq (by have:=zV a b q;omega) ?_ ?_
  ·rw [Yn,UA];exact h2
  ·unfold low at *;rw [Yn,UA r s,UA (r * h b)];exact h3
end
theorem KH {h:Pt->Int} {p q c d:Pt} (hS:0 < det p q c) (hR:0 < det q p d) (hU:0 < det c p d) (hV:0 < det d q c) (hP:0 < PH h p q c d) {M v:Int} {m:Pt} (hM:0 < M) (m1:0<=det (sc M p) (sc M q) m) (m2:0<=det (sc M q) (sc M c) m) (m3:0<=det (sc M c) (sc M p) m) (hl:P4 (sc M p) (sc M q) (sc M c) m (M * h p) (M * h q) (M * h c) v < 0):((0<=det (sc M c) (sc M p) m/\0<=det (sc M p) (sc M d) m/\0<=det (sc M d) (sc M c) m)/\P4 (sc M c) (sc M p) (sc M d) m (M * h c) (M * h p) (M * h d) v < 0)\/((0<=det (sc M d) (sc M q) m/\0<=det (sc M q) (sc M c) m/\0<=det (sc M c) (sc M d) m)/\P4 (sc M d) (sc M q) (sc M c) m (M * h d) (M * h q) (M * h c) v < 0):=by
 by_cases hd:0<=det (sc M d) (sc M c) m
 ·refine .inl ⟨⟨m3,?_,hd⟩,?_⟩
  ·refine (zd hS).1 ?_;have e:det p q c * det (sc M p) (sc M d) m=det (sc M c) (sc M p) m * det q p d+det (sc M p) (sc M q) m * det c p d:=by unfold det sc;grind
   rw [e];exact UF (Kr m3 (JT hR)) (Kr m1 (JT hU))
  ·refine (yP hS).1 ?_;have e:det p q c * P4 (sc M c) (sc M p) (sc M d) m (M * h c) (M * h p) (M * h d) v=det c p d * P4 (sc M p) (sc M q) (sc M c) m (M * h p) (M * h q) (M * h c) v - M * (PH h p q c d * det (sc M c) (sc M p) m):=by
    unfold PH;generalize h p=x
    generalize h q=y
    generalize h c=z
    generalize h d=w
    unfold P4 det sc;grind
   have k1:=(yP hU).2 hl;have k2:=Kr (JT hM) (Kr (JT hP) m3);omega
 ·have hd2:0<=det (sc M c) (sc M d) m:=by have:=zV (sc M d) (sc M c) m;omega
  refine .inr ⟨⟨?_,m2,hd2⟩,?_⟩
  ·refine (zd hS).1 ?_;have e:det p q c * det (sc M d) (sc M q) m=det (sc M q) (sc M c) m * det q p d+det (sc M p) (sc M q) m * det d q c:=by unfold det sc;grind
   rw [e];exact UF (Kr m2 (JT hR)) (Kr m1 (JT hV))
  ·refine (yP hS).1 ?_;have e:det p q c * P4 (sc M d) (sc M q) (sc M c) m (M * h d) (M * h q) (M * h c) v=det d q c * P4 (sc M p) (sc M q) (sc M c) m (M * h p) (M * h q) (M * h c) v - M * (PH h p q c d * det (sc M q) (sc M c) m):=by
    unfold PH;generalize h p=x
    generalize h q=y
    generalize h c=z
    generalize h d=w
    unfold P4 det sc;grind
   have k1:=(yP hV).2 hl;have k2:=Kr (JT hM) (Kr (JT hP) m2);omega
theorem KX (h:Pt->Int) (p q c d:Pt):PH h q p d c=PH h p q c d:=by
 unfold PH;generalize h p=x
 generalize h q=y
 generalize h c=z
 generalize h d=w
 unfold det;grind
theorem dead_flip {h:Pt->Int} {L L':List Tri3} {S R U V:Tri3} {p q c d:Pt} (hk:∀ T∈L,T≠S->T≠R->T∈L') (hU:U∈L') (hV:V∈L') (cS:Cyc S p q c) (cR:Cyc R q p d) (cU:Cyc U c p d) (cV:Cyc V d q c) (dS:0 < det p q c) (dR:0 < det q p d) (dU:0 < det c p d) (dV:0 < det d q c) (hP:0 < PH h p q c d) {a b:Pt} (hd:dead h L a b):dead h L' a b:=by
 obtain ⟨s,r,hs,hr,T,hT,h2,h3⟩:=hd;have hM:0 < s+r:=by omega
 by_cases e1:T=S
 ·subst e1;rw [xU cS] at h2;rw [ky cS] at h3;rcases KH dS dR dU dV hP hM h2.1 h2.2.1 h2.2.2 h3 with ⟨k1,k2⟩ | ⟨k1,k2⟩
  ·exact ⟨s,r,hs,hr,U,hU,(xU cU).2 k1,(ky cU).2 k2⟩
  ·exact ⟨s,r,hs,hr,V,hV,(xU cV).2 k1,(ky cV).2 k2⟩
 ·by_cases e2:T=R
  ·subst e2;rw [xU cR] at h2;rw [ky cR] at h3;rcases KH dR dS dV dU (by rw [KX];exact hP) hM h2.1 h2.2.1 h2.2.2 h3 with ⟨k1,k2⟩ | ⟨k1,k2⟩
   ·exact ⟨s,r,hs,hr,V,hV,(xU cV).2 k1,(ky cV).2 k2⟩
   ·exact ⟨s,r,hs,hr,U,hU,(xU cU).2 k1,(ky cU).2 k2⟩
  ·exact ⟨s,r,hs,hr,T,hk T hT e1 e2,h2,h3⟩
theorem det_mid (p q c d:Pt) (s t:Int):det (sc (s+t) d) (sc (s+t) c) (mid p q s t)=(s+t) * (s * det c p d - t * det d q c):=by unfold det sc mid;grind
theorem P4_mid (p q c d:Pt) (s t x y z w:Int):P4 (sc (s+t) c) (sc (s+t) p) (sc (s+t) d) (mid p q s t) ((s+t) * z) ((s+t) * x) ((s+t) * w) (s * x+t * y) = -((s+t) * ((s+t) * (t * P4 p q c d x y z w))):=by unfold P4 det sc mid;grind
theorem dead_new {h:Pt->Int} {L':List Tri3} {U:Tri3} {p q c d:Pt} (hU:U∈L') (cU:Cyc U c p d) (dS:0 < det p q c) (dR:0 < det q p d) (dU:0 < det c p d) (dV:0 < det d q c) (hP:0 < PH h p q c d):dead h L' p q:=by
 have hM:0 < det d q c+det c p d:=by omega
 have g1:∀ s t:Int,det (sc (s+t) c) (sc (s+t) p) (mid p q s t)=(s+t) * (t * det p q c):=λs t=>by unfold det sc mid;grind
 have g2:∀ s t:Int,det (sc (s+t) p) (sc (s+t) d) (mid p q s t)=(s+t) * (t * det q p d):=λs t=>by unfold det sc mid;grind
 refine ⟨det d q c,det c p d,dV,dU,U,hU,(xU cU).2 ⟨?_,?_,?_⟩,(ky cU).2 ?_⟩
 ·rw [g1];exact Kr (JT hM) (Kr (JT dU) (JT dS))
 ·rw [g2];exact Kr (JT hM) (Kr (JT dU) (JT dR))
 ·rw [det_mid,VM (det d q c) (det c p d),V7,Jd];exact Vf _
 ·rw [P4_mid];have hP':0 < P4 p q c d (h p) (h q) (h c) (h d):=hP;have:=JI hM (JI hM (JI dU hP'));omega
attribute [local go_sem 10000] run_upto_tri
theorem ZT {w:World} {a:Option Addr} {L:List Tri3} (h:RowAt cT 6 w a L) (k:Nat):RowAt cT 6 w a (L.take k):=λj x hx=>by
 refine h j x ?_;rw [QP] at hx;split at hx
 ·exact hx
 ·cases hx
theorem ur:∀ (L:List Tri3) (E:Es),(takeRun E L).1<=L.length
 | [],_=>JA _
 | T :: L,E=>by
  unfold takeRun;split
  ·have:=ur L (takeT E T);simp only [JO];omega
  ·exact JZ _
theorem uz:∀ (L:List Tri3) (E:Es),(putRun E L).1<=L.length
 | [],_=>JA _
 | T :: L,E=>by
  unfold putRun;split
  ·have:=uz L (putT E T);simp only [JO];omega
  ·exact JZ _
theorem replace_none (mb b:Nat) (E:Es) (a1 a2:Option Addr) (cap1 cap2 n1 n2:Nat) (L1:List Tri3) (hn1:L1.length=n1) (hc1:n1<=cap1) (hm1:n1<=1000000) (hok1:∀ T∈L1,okT T) (h1:(takeRun E L1).1 < n1) (w:World) (Bm:Box w mb [.map (some b)] 102) (Hm:Hs w b E) (Hr1:RowAt cT 6 w a1 L1):Calls prog 42 #[pt0 mb,.slice a1 n1 cap1,.slice a2 n2 cap2] w λe w'=>e=.returned (.int .i64 16)/\w.grownBy w' (some b)/\Hs w' b (putRun (takeRun E L1).2 (L1.take (takeRun E L1).1)).2:=by
 have c1:=jF mb b E a1 cap1 n1 L1 (hdd hn1) hm1 hok1;generalize hk:(takeRun E L1).1=k at *
 generalize (takeRun E L1).2=F at *
 have c2:=jV mb b F a1 cap1 k (L1.take k) (hdd (by rw [JV];omega)) (by omega) (λT hT=>hok1 T (QT hT));generalize (putRun F (L1.take k)).1=j at *
 generalize hL2:L1.take k=L2 at *
 have HL2:=hdd hL2;generalize (putRun F L2).2=G at *
 have d1:decide ((k:Int) < (n1:Int))=true:=by simp;omega
 have d2:(k:Int) < (n1:Int):=by omega
 have hkc:k<=cap1:=by omega
 clear hok1 hn1 hL2 hk
 go_enter func42,ntmps42
 go_wp2_with fail;refine (c1 _ Bm Hm Hr1).mono ?_;rintro e w1 ⟨rfl,hg,H1⟩;replace Bm:=Bm.turn Hm hg;have Hr2:=ZT (Hr1.turn cT_ne Hm hg) k;rw [HL2.o] at Hr2;clear Hm Hr1 c1 HL2;go_wp2_with fail;refine (c2 _ Bm H1 Hr2).mono ?_;rintro e w2 ⟨rfl,hh,H2⟩;replace hg:=zQ hg hh;clear hh;go_wp2
 go_ret
 exact ⟨rfl,hg,H2⟩
theorem replace_bad (mb b:Nat) (E:Es) (a1 a2:Option Addr) (cap1 cap2 n1 n2:Nat) (L1 L2:List Tri3) (hn1:L1.length=n1) (hm1:n1<=1000000) (hok1:∀ T∈L1,okT T) (hn2:L2.length=n2) (hc2:n2<=cap2) (hm2:n2<=1000000) (hok2:∀ T∈L2,okT T) (h1:(takeRun E L1).1=n1) (h2:(putRun (takeRun E L1).2 L2).1 < n2) (w:World) (Bm:Box w mb [.map (some b)] 102) (Hm:Hs w b E) (Hr1:RowAt cT 6 w a1 L1) (Hr2:RowAt cT 6 w a2 L2):Calls prog 42 #[pt0 mb,.slice a1 n1 cap1,.slice a2 n2 cap2] w λe w'=>e=.returned (.int .i64 2)/\w.grownBy w' (some b)/\Hs w' b (putRun (takeRun (putRun (takeRun E L1).2 L2).2 (L2.take (putRun (takeRun E L1).2 L2).1)).2 L1).2:=by
 have c1:=jF mb b E a1 cap1 n1 L1 (hdd hn1) hm1 hok1;rw [h1] at c1;generalize (takeRun E L1).2=F at *
 have c2:=jV mb b F a2 cap2 n2 L2 (hdd hn2) hm2 hok2;generalize (putRun F L2).1=k at *
 generalize (putRun F L2).2=G at *
 have c3:=jF mb b G a2 cap2 k (L2.take k) (hdd (by rw [JV];omega)) (by omega) (λT hT=>hok2 T (QT hT));generalize hL3:L2.take k=L3 at *
 have HL3:=hdd hL3;generalize (takeRun G L3).1=j3 at *
 generalize (takeRun G L3).2=G3 at *
 have c4:=jV mb b G3 a1 cap1 n1 L1 (hdd hn1) hm1 hok1;generalize (putRun G3 L1).1=j4 at *
 generalize (putRun G3 L1).2=G4 at *
 have d0:decide ((n1:Int) < (n1:Int))=false:=by simp
 have d1:decide ((k:Int) < (n2:Int))=true:=by simp;omega
 have d2:(k:Int) < (n2:Int):=by omega
 have hkc:k<=cap2:=by omega
 clear hok1 hok2 hn1 hn2 hL3 h1
 go_enter func42,ntmps42
 go_wp2_with fail;refine (c1 _ Bm Hm Hr1).mono ?_;rintro e w1 ⟨rfl,hg,H1⟩;replace Bm:=Bm.turn Hm hg;replace Hr1:=Hr1.turn cT_ne Hm hg;replace Hr2:=Hr2.turn cT_ne Hm hg;clear Hm c1;go_wp2_with fail;refine (c2 _ Bm H1 Hr2).mono ?_;rintro e w2 ⟨rfl,hh,H2⟩;replace hg:=zQ hg hh;replace Bm:=Bm.turn H1 hh;replace Hr1:=Hr1.turn cT_ne H1 hh;have Hr3:=ZT (Hr2.turn cT_ne H1 hh) k;rw [HL3.o] at Hr3;clear hh H1 c2 Hr2 HL3;go_wp2_with fail;refine (c3 _ Bm H2 Hr3).mono ?_;rintro e w3 ⟨rfl,hh,H3⟩;replace hg:=zQ hg hh;replace Bm:=Bm.turn H2 hh;replace Hr1:=Hr1.turn cT_ne H2 hh;clear hh H2 c3 Hr3;go_wp2_with fail;refine (c4 _ Bm H3 Hr1).mono ?_;rintro e w4 ⟨rfl,hh,H4⟩;replace hg:=zQ hg hh;clear hh;go_wp2
 go_ret
 exact ⟨rfl,hg,H4⟩
theorem Good.takeUp:∀ {L1:List Tri3} {E:Es} {L:List Tri3},Good E L->∃ M,L.Perm (L1.take (takeRun E L1).1 ++ M)/\Good (takeRun E L1).2 M
 | [],E,L,h=>⟨L,by simp,h⟩
 | T :: L1,E,L,h=>by
  unfold takeRun;by_cases hh:hasE E T=true
  ·rw [J1 hh];have hm:=h.has.1 hh;obtain ⟨M0,hM0⟩:∃ M0,L.Perm (T :: M0):=⟨L.erase T,Vx hm⟩;obtain ⟨_,h2⟩:=Good.take (h.order hM0);obtain ⟨M,p,g⟩:=Good.takeUp (L1:=L1) h2;exact ⟨M,by simp only [Jk,Jn];exact hM0.trans (p.cons T),g⟩
  ·rw [Kl hh];exact ⟨L,by simp,h⟩
theorem fits_free {E:Es} {M:List Tri3} (h:Good E M) {T:Tri3} (hf:fitsE E T=true):valT T=true/\∀ w∈ways T,w ∉ M.flatMap ways:=by
 obtain ⟨h1,h2,h3,hv⟩:=tQ hf;refine ⟨hv,λw hw=>?_⟩;simp only [ways,Km,JB,Jj] at hw;rcases hw with rfl | rfl | rfl
 ·exact h.get_none.1 h1
 ·exact h.get_none.1 h2
 ·exact h.get_none.1 h3
theorem Good.putUp:∀ {L2:List Tri3} {E:Es} {M:List Tri3},Good E M->Good (putRun E L2).2 (L2.take (putRun E L2).1 ++ M)
 | [],E,M,h=>by simpa [putRun] using h
 | T :: L2,E,M,h=>by
  unfold putRun;by_cases hh:fitsE E T=true
  ·rw [J1 hh];obtain ⟨hv,hn⟩:=fits_free h hh;have h2:=(Good.put h hv hn).2;have:=Good.putUp (L2:=L2) h2;simp only [Jk,Jn];exact this.order QH
  ·rw [Kl hh]
   simpa using h
def Repl (E:Es) (L L1 L2:List Tri3) (r:Int) (L':List Tri3):Prop:=
 (r=16/\(takeRun E L1).1 < L1.length/\L'.Perm L) \/
 (r=2/\(takeRun E L1).1=L1.length/\(putRun (takeRun E L1).2 L2).1 < L2.length/\L'.Perm L) \/
 (r=0/\(takeRun E L1).1=L1.length/\(putRun (takeRun E L1).2 L2).1=L2.length/\∃ M,L.Perm (L1 ++ M)/\L'.Perm (L2 ++ M))
theorem mreplace_any (mb b:Nat) (E:Es) (L:List Tri3) (g:Good E L) (a1 a2:Option Addr) (cap1 cap2 n1 n2:Nat) (L1 L2:List Tri3) (hn1:L1.length=n1) (hc1:n1<=cap1) (hm1:n1<=1000000) (hok1:∀ T∈L1,okT T) (hn2:L2.length=n2) (hc2:n2<=cap2) (hm2:n2<=1000000) (hok2:∀ T∈L2,okT T) (w:World) (Bm:Box w mb [.map (some b)] 102) (Hm:Hs w b E) (Hr1:RowAt cT 6 w a1 L1) (Hr2:RowAt cT 6 w a2 L2):Calls prog 42 #[pt0 mb,.slice a1 n1 cap1,.slice a2 n2 cap2] w λe w'=>∃ r E' L',e=.returned (.int .i64 r)/\w.grownBy w' (some b)/\Hs w' b E'/\Good E' L'/\Repl E L L1 L2 r L':=by
 obtain ⟨M,pM,gM⟩:=Good.takeUp (L1:=L1) g;have tl:=ur L1 E;by_cases h1:(takeRun E L1).1=n1
 ·have e1:L1.take (takeRun E L1).1=L1:=JM (by omega);rw [e1] at pM;have pl:=uz L2 (takeRun E L1).2;have gG:=Good.putUp (L2:=L2) gM;by_cases h2:(putRun (takeRun E L1).2 L2).1=n2
  ·have e2:L2.take (putRun (takeRun E L1).2 L2).1=L2:=JM (by omega);rw [e2] at gG;refine (ux mb b E a1 a2 cap1 cap2 n1 n2 L1 L2 (hdd hn1) hm1 hok1 (hdd hn2) hm2 hok2 h1 h2 w Bm Hm Hr1 Hr2).mono ?_;rintro e w' ⟨rfl,hg,H'⟩;exact ⟨0,_,_,rfl,hg,H',gG,.inr (.inr ⟨rfl,by omega,by omega,M,pM,.refl _⟩)⟩
  ·refine (replace_bad mb b E a1 a2 cap1 cap2 n1 n2 L1 L2 hn1 hm1 hok1 hn2 hc2 hm2 hok2 h1 (by omega) w Bm Hm Hr1 Hr2).mono ?_;rintro e w' ⟨rfl,hg,H'⟩;have g3:=(Good.takes (F:=L2.take (putRun (takeRun E L1).2 L2).1) (M:=M) gG).2;have n4:((L1 ++ M).flatMap ways).Nodup:=(zq pM).nodup_iff.1 g.once;have g4:=(Good.puts (I:=L1) (M:=M) g3 (λT hT=>g.val T (pM.mem_iff.2 (by simp [hT]))) n4).2;exact ⟨2,_,_,rfl,hg,H',g4,.inr (.inl ⟨rfl,by omega,by omega,pM.symm⟩)⟩
 ·refine (replace_none mb b E a1 a2 cap1 cap2 n1 n2 L1 hn1 hc1 hm1 hok1 (by omega) w Bm Hm Hr1).mono ?_;rintro e w' ⟨rfl,hg,H'⟩;have n4:((L1.take (takeRun E L1).1 ++ M).flatMap ways).Nodup:=(zq pM).nodup_iff.1 g.once;have g4:=(Good.puts (I:=L1.take (takeRun E L1).1) (M:=M) gM (λT hT=>g.val T (pM.mem_iff.2 (by simp [hT]))) n4).2;exact ⟨16,_,_,rfl,hg,H',g4,.inl ⟨rfl,by omega,pM.symm⟩⟩
end
section
open Go.RowKit Go.Sort
attribute [local go_sem] rOper rAt rUpon cell_set sg_i64 sg_u64 alloc_cell alloc_frozen
attribute [local go_sem 10000] pt_eql pt_neq tri_eql
attribute [local irreducible] rWalk
theorem flip_g (mb b:Nat) (E:Es) (p q:Pt) (hk:okW (p,q)) (L:List Tri3) (g:Good E L) (S R U V:Tri3) (C D:Pt) (h0:getE E (p,q)=some S) (h1:getE E (q,p)=some R) (hC:apx S p q=C) (hD:apx R p q=D) (hm:meetS p q C D=1) (hU:mk C p D=U) (hV:mk D q C=V) (hS:okT S) (hR:okT R) (hu:okT U) (hv:okT V) (w:World) (Bm:Box w mb [.map (some b)] 102) (Hm:Hs w b E):Calls prog 135 #[pt0 mb,p,q] w λe w'=>∃ r E' L',e=.returned (.int .i64 r)/\w.grownBy w' (some b)/\Hs w' b E'/\Good E' L'/\Repl E L [S,R] [U,V] r L':=by
 have cl:=Z4 mb b E p q S h0 hk;have cr:=Z4 mb b E q p R h1 ⟨hk.2,hk.1⟩;clear h0 h1;have ca:=ks S p q;have cb:=ks R p q;have cm:=uO p q C D;have cu:=vf C p D;have cv:=vf D q C;rw [hU] at cu;rw [hV] at cv;rw [hC] at ca;rw [hD] at cb;rw [hm] at cm;have cp:=λa1 a2 w B H R1 R2=>mreplace_any mb b E L g a1 a2 2 2 2 2 [S,R] [U,V] rfl (by decide) (by decide) (by simpa using And.intro hS hR) rfl (by decide) (by decide) (by simpa using And.intro hu hv) w B H R1 R2;have HGG:=hdd g;clear hU hV hC hD hm hS hR hu hv g
 go_enter func135,ntmps135
 go_wp2_with fail;refine qE2 λW1 Bp Bq hw=>?_;refine qC2 (cl _ (Bm.ee hw) (Hm.ee hw)) Bp Bq hw λw2 Bp Bq hw FK=>?_;go_wp2_with fail;clear FK;refine zI λW3 hW=>?_;obtain ⟨bks,hbs⟩:∃ b,w2.heap.size=b:=⟨_,rfl⟩;rw [hbs];obtain ⟨lps,lqs,fs,Bs,Bp,Bq,hw⟩:=qM2 hW hbs Bp Bq hw;clear hW hbs;refine qC3 (cr _ (Bm.ee hw) (Hm.ee hw)) Bp Bq Bs hw λw4 Bp Bq Bs hw Gu=>?_;go_wp2_with fail;clear Gu;refine zG λW5 hW=>?_;obtain ⟨bkr,hbr⟩:∃ b,w4.heap.size=b:=⟨_,rfl⟩;rw [hbr];obtain ⟨lpr,lqr,lsr,fr,Br,Bp,Bq,Bs,hw⟩:=qM3 hW hbr Bp Bq Bs hw;clear hW hbr;have Gt:=J4 Bp.cells Bq.cells Bs.cells Br.cells;refine zl 10 [⟨8,10,26,[(),()]⟩,⟨9,11,26,[(),()]⟩] ?_ (by kernel_rfl) (by decide) (by decide) (by kernel_rfl) (by decide) (C:=λw'=>∃ p:Regrown,w'=grow (redrawn W5 p.d) p.os) rgB ?_
 ·simp only [QM];refine ⟨⟨_,rfl,rfl,rfl,rfl,λρ W=>by simp [execOp,go_sem]⟩,⟨_,rfl,rfl,rfl,rfl,λρ W=>by simp [execOp,go_sem]⟩,λ_ h=>(by cases h)⟩
 simp only [Jk,QQ,Jc,Qy,dropIdx,QW,Qa,Nat.reduceBEq,Nat.reduceAdd,Qx,V4,V5,Jw,VS,VL];refine wkx ?_;intro w6 β hL;simp only [putD,Q7,QC];have qc:=hL.box ⟨8,10,26,[(),()]⟩ (by simp) (by simp);simp only at qc;have qd:=hL.box ⟨9,11,26,[(),()]⟩ (by simp) (by simp);simp only at qd;have ncd:=hL.apart 10 (by simp) 11 (by simp) (by decide);have ndc:=hL.apart 11 (by simp) 10 (by simp) (by decide);have hb:=hL.below;have lp:=Bp.lt;have lq:=Bq.lt;have ls:=Bs.lt;have lr:=Br.lt;clear Gt;replace Bp:=Bp.ee hb;replace Bq:=Bq.ee hb;replace Bs:=Bs.ee hb;replace Br:=Br.ee hb;have hw0:=hw.size;replace hw:=upB hw hb;clear hb hL;generalize β 10=bkc at *
 generalize β 11=bkd at *
 clear β;obtain ⟨fc,Bc⟩:=qc;obtain ⟨fd,Bd⟩:=qd;simp only [Act.put];have Fc:=Bc.f;have Fd:=Bd.f;have Fp:=Bp.f;have Fq:=Bq.f;have Fs:=Bs.f;have Fr:=Br.f;have epbkc:(w.heap.size=bkc)=False:=by simp;omega
 have epbkc':(bkc=w.heap.size)=False:=by simp;omega
 have epbkd:(w.heap.size=bkd)=False:=by simp;omega
 have epbkd':(bkd=w.heap.size)=False:=by simp;omega
 have eqbkc:(w.heap.size+1=bkc)=False:=by simp;omega
 have eqbkc':(bkc=w.heap.size+1)=False:=by simp;omega
 have eqbkd:(w.heap.size+1=bkd)=False:=by simp;omega
 have eqbkd':(bkd=w.heap.size+1)=False:=by simp;omega
 have esbkc:(bks=bkc)=False:=by simp;omega
 have esbkc':(bkc=bks)=False:=by simp;omega
 have esbkd:(bks=bkd)=False:=by simp;omega
 have esbkd':(bkd=bks)=False:=by simp;omega
 have erbkc:(bkr=bkc)=False:=by simp;omega
 have erbkc':(bkc=bkr)=False:=by simp;omega
 have erbkd:(bkr=bkd)=False:=by simp;omega
 have erbkd':(bkd=bkr)=False:=by simp;omega
 have ebkcbkd:(bkc=bkd)=False:=by simp;omega
 have ebkdbkc:(bkd=bkc)=False:=by simp;omega
 go_wp2_with fail;refine zI λW7 hW=>?_;replace Bp:=sto Bp hW;replace Bq:=sto Bq hW;replace Bs:=sto Bs hW;replace Br:=sto Br hW;replace Bc:=sto Bc hW;replace Bd:=sto Bd hW;replace hw:=stw hw hW;clear Fc Fd;clear Fp Fq Fs Fr epbkc epbkc' epbkd epbkd' eqbkc eqbkc' eqbkd eqbkd' esbkc esbkc' esbkd esbkd' erbkc erbkc' erbkd erbkd' ebkcbkd ebkdbkc;clear hW;refine qC6 (cm _) Bp Bq Bs Br Bc Bd hw λw8 Bp Bq Bs Br Bc Bd hw Gq=>?_;go_wp2_with fail;clear Gq;refine qC6 (cu _) Bp Bq Bs Br Bc Bd hw λw9 Bp Bq Bs Br Bc Bd hw Gq=>?_;go_wp2_with fail;clear Gq;refine zI λW10 hW=>?_;obtain ⟨bku,hbu⟩:∃ b,w9.heap.size=b:=⟨_,rfl⟩;rw [hbu];have lpu:=Bp.lt;rw [hbu] at lpu;have lqu:=Bq.lt;rw [hbu] at lqu;have lsu:=Bs.lt;rw [hbu] at lsu;have lru:=Br.lt;rw [hbu] at lru;have lcu:=Bc.lt;rw [hbu] at lcu;have ldu:=Bd.lt;rw [hbu] at ldu;have fu:=hw.size;rw [hbu] at fu;have Bu:Box W10 bku [U.A.x,U.A.y,U.B.x,U.B.y,U.C.x,U.C.y] 28:=by rw [hW];exact Box.new hbu.symm
 replace Bp:Box W10 w [p.x,p.y] 26:=by rw [hW];exact Bp.old _
 replace Bq:Box W10 (w+1) [q.x,q.y] 26:=by rw [hW];exact Bq.old _
 replace Bs:Box W10 (bks) [S.A.x,S.A.y,S.B.x,S.B.y,S.C.x,S.C.y] 28:=by rw [hW];exact Bs.old _
 replace Br:Box W10 (bkr) [R.A.x,R.A.y,R.B.x,R.B.y,R.C.x,R.C.y] 28:=by rw [hW];exact Br.old _
 replace Bc:Box W10 (bkc) [C.x,C.y] 26:=by rw [hW];exact Bc.old _
 replace Bd:Box W10 (bkd) [D.x,D.y] 26:=by rw [hW];exact Bd.old _
 replace hw:Below w w W10:=by have hl:=hw.size;rw [hW];go_grown
 clear hW hbu;refine (cv _).mono ?_;rintro e w11 ⟨rfl,hb⟩;replace Bp:=Bp.ee hb;obtain ⟨Bq,Bs,Br,Bc,Bd,Bu,hw,-⟩:=qX6 Bq Bs Br Bc Bd Bu hw hb;clear hb;have Fp:=Bp.f;have Fq:=Bq.f;have Fs:=Bs.f;have Fr:=Br.f;have Fc:=Bc.f;have Fd:=Bd.f;have Fu:=Bu.f;have es4:(bks=w11.heap.size+1)=False:=by have:=Bs.lt;simp;omega
 have es8:(bks=w11.heap.size+1+1)=False:=by have:=Bs.lt;simp;omega
 have er4:(bkr=w11.heap.size+1)=False:=by have:=Br.lt;simp;omega
 have er8:(bkr=w11.heap.size+1+1)=False:=by have:=Br.lt;simp;omega
 have eu4:(bku=w11.heap.size+1)=False:=by have:=Bu.lt;simp;omega
 have eu8:(bku=w11.heap.size+1+1)=False:=by have:=Bu.lt;simp;omega
 go_wp2_with fail;have row:∀ {w:World} {g:Nat} {X Y:Tri3},Box w g (cT X ++ cT Y) 28->RowAt cT 6 w (some ⟨g,0,none⟩) [X,Y]:=λ{w g X Y} h=>jy (S:=[X,Y]) (by simpa using h);refine zI λW12 hW=>?_;have R1:RowAt cT 6 W12 (some ⟨w11+1,0,none⟩) [S,R]:=row (by rw [hW];exact (Box.new (by simp)).old _);have R2:RowAt cT 6 W12 (some ⟨w11+1+1,0,none⟩) [U,V]:=row (by rw [hW];exact Box.new (by simp));replace hw:Below w w W12:=by have hl:=hw.size;rw [hW];go_grown
 clear hW row;have hlt:=Hm.lt;refine (cp _ _ _ (Bm.ee hw) (Hm.ee hw) R1 R2).mono ?_;rintro e w13 ⟨r,E9,L9,rfl,hg,H2,G2,R9⟩;replace hg:=below_then hw hg;clear Fp Fq Fs Fr Fc Fd Fu;go_wp2
 go_ret
 exact ⟨r,E9,L9,rfl,hg,H2,G2,R9⟩
theorem flip_m (mb b:Nat) (E:Es) (p q:Pt) (hk:okW (p,q)) (S R:Tri3) (C D:Pt) (h0:getE E (p,q)=some S) (h1:getE E (q,p)=some R) (hC:apx S p q=C) (hD:apx R p q=D) (hm:¬ meetS p q C D=1) (w:World) (Bm:Box w mb [.map (some b)] 102) (Hm:Hs w b E):Calls prog 135 #[pt0 mb,p,q] w (Rt w (.int .i64 2)):=by
 have cl:=Z4 mb b E p q S h0 hk;have cr:=Z4 mb b E q p R h1 ⟨hk.2,hk.1⟩;clear h0 h1;have ca:=ks S p q;have cb:=ks R p q;have cm:=uO p q C D;rw [hC] at ca;rw [hD] at cb;generalize meetS p q C D=z at *
 have hz:(z != 1)=true:=by simpa using hm
 clear hC hD
 go_enter func135,ntmps135
 go_wp2_with fail;refine qE2 λW1 Bp Bq hw=>?_;refine qC2 (cl _ (Bm.ee hw) (Hm.ee hw)) Bp Bq hw λw2 Bp Bq hw FK=>?_;go_wp2_with fail;clear FK;refine zI λW3 hW=>?_;obtain ⟨bks,hbs⟩:∃ b,w2.heap.size=b:=⟨_,rfl⟩;rw [hbs];obtain ⟨lps,lqs,fs,Bs,Bp,Bq,hw⟩:=qM2 hW hbs Bp Bq hw;clear hW hbs;refine qC3 (cr _ (Bm.ee hw) (Hm.ee hw)) Bp Bq Bs hw λw4 Bp Bq Bs hw Gu=>?_;go_wp2_with fail;clear Gu;refine zG λW5 hW=>?_;obtain ⟨bkr,hbr⟩:∃ b,w4.heap.size=b:=⟨_,rfl⟩;rw [hbr];obtain ⟨lpr,lqr,lsr,fr,Br,Bp,Bq,Bs,hw⟩:=qM3 hW hbr Bp Bq Bs hw;clear hW hbr;have Gt:=J4 Bp.cells Bq.cells Bs.cells Br.cells;refine zl 10 [⟨8,10,26,[(),()]⟩,⟨9,11,26,[(),()]⟩] ?_ (by kernel_rfl) (by decide) (by decide) (by kernel_rfl) (by decide) (C:=λw'=>∃ p:Regrown,w'=grow (redrawn W5 p.d) p.os) rgB ?_
 ·simp only [QM];refine ⟨⟨_,rfl,rfl,rfl,rfl,λρ W=>by simp [execOp,go_sem]⟩,⟨_,rfl,rfl,rfl,rfl,λρ W=>by simp [execOp,go_sem]⟩,λ_ h=>(by cases h)⟩
 simp only [Jk,QQ,Jc,Qy,dropIdx,QW,Qa,Nat.reduceBEq,Nat.reduceAdd,Qx,V4,V5,Jw,VS,VL];refine wkx ?_;intro w6 β hL;simp only [putD,Q7,QC];have qc:=hL.box ⟨8,10,26,[(),()]⟩ (by simp) (by simp);simp only at qc;have qd:=hL.box ⟨9,11,26,[(),()]⟩ (by simp) (by simp);simp only at qd;have ncd:=hL.apart 10 (by simp) 11 (by simp) (by decide);have ndc:=hL.apart 11 (by simp) 10 (by simp) (by decide);have hb:=hL.below;have lp:=Bp.lt;have lq:=Bq.lt;have ls:=Bs.lt;have lr:=Br.lt;clear Gt;replace Bp:=Bp.ee hb;replace Bq:=Bq.ee hb;replace Bs:=Bs.ee hb;replace Br:=Br.ee hb;have hw0:=hw.size;replace hw:=upB hw hb;clear hb hL;generalize β 10=bkc at *
 generalize β 11=bkd at *
 clear β;obtain ⟨fc,Bc⟩:=qc;obtain ⟨fd,Bd⟩:=qd;simp only [Act.put];have Fc:=Bc.f;have Fd:=Bd.f;have Fp:=Bp.f;have Fq:=Bq.f;have Fs:=Bs.f;have Fr:=Br.f;have epbkc:(w.heap.size=bkc)=False:=by simp;omega
 have epbkc':(bkc=w.heap.size)=False:=by simp;omega
 have epbkd:(w.heap.size=bkd)=False:=by simp;omega
 have epbkd':(bkd=w.heap.size)=False:=by simp;omega
 have eqbkc:(w.heap.size+1=bkc)=False:=by simp;omega
 have eqbkc':(bkc=w.heap.size+1)=False:=by simp;omega
 have eqbkd:(w.heap.size+1=bkd)=False:=by simp;omega
 have eqbkd':(bkd=w.heap.size+1)=False:=by simp;omega
 have esbkc:(bks=bkc)=False:=by simp;omega
 have esbkc':(bkc=bks)=False:=by simp;omega
 have esbkd:(bks=bkd)=False:=by simp;omega
 have esbkd':(bkd=bks)=False:=by simp;omega
 have erbkc:(bkr=bkc)=False:=by simp;omega
 have erbkc':(bkc=bkr)=False:=by simp;omega
 have erbkd:(bkr=bkd)=False:=by simp;omega
 have erbkd':(bkd=bkr)=False:=by simp;omega
 have ebkcbkd:(bkc=bkd)=False:=by simp;omega
 have ebkdbkc:(bkd=bkc)=False:=by simp;omega
 go_wp2_with fail;refine zI λW7 hW=>?_;replace Bp:=sto Bp hW;replace Bq:=sto Bq hW;replace Bs:=sto Bs hW;replace Br:=sto Br hW;replace Bc:=sto Bc hW;replace Bd:=sto Bd hW;replace hw:=stw hw hW;clear Fc Fd;clear Fp Fq Fs Fr epbkc epbkc' epbkd epbkd' eqbkc eqbkc' eqbkd eqbkd' esbkc esbkc' esbkd esbkd' erbkc erbkc' erbkd erbkd' ebkcbkd ebkdbkc;clear hW;refine qK6 (cm _) Bp Bq Bs Br Bc Bd hw λw8 Bp Bq Bs Br Bc Bd hw=>?_;have Fp:=Bp.f;have Fq:=Bq.f;have Fs:=Bs.f;have Fr:=Br.f;have Fc:=Bc.f;have Fd:=Bd.f;go_wp2
 go_ret
 exact ⟨rfl,by have hl:=hw.size;go_grown⟩
theorem mk_okT (a b c:Pt):okT (mk a b c):=by
 by_cases h:ori a b c=0
 ·rw [Zg h];have z:vld (⟨0,0⟩:Pt)=true:=by decide
  exact ⟨yW z,yW z,yW z⟩
 ·exact ye (mk_ok h).1
def FlipC (E:Es) (L:List Tri3) (p q:Pt) (r:Int) (L':List Tri3):Prop:=
 (r=16/\(getE E (p,q)=none\/getE E (q,p)=none)/\L'.Perm L) \/
 (∃ S R,getE E (p,q)=some S/\getE E (q,p)=some R /\
  ((meetS p q (apx S p q) (apx R p q)≠1/\r=2/\L'.Perm L) \/
   (meetS p q (apx S p q) (apx R p q)=1/\Repl E L [S,R] [mk (apx S p q) p (apx R p q),mk (apx R p q) q (apx S p q)] r L')))
theorem mflip_any (mb b:Nat) (E:Es) (L:List Tri3) (g:Good E L) (p q:Pt) (hk:okW (p,q)) (w:World) (Bm:Box w mb [.map (some b)] 102) (Hm:Hs w b E):Calls prog 135 #[pt0 mb,p,q] w λe w'=>∃ r E' L',e=.returned (.int .i64 r)/\w.grownBy w' (some b)/\Hs w' b E'/\Good E' L'/\FlipC E L p q r L':=by
 cases h0:getE E (p,q) with
 | none=>
  refine (flip_n0 mb b E p q hk h0 w Bm Hm).mono ?_;rintro e w' ⟨rfl,hb⟩;exact ⟨16,E,L,rfl,zM hb _,Hm.ee hb,g,.inl ⟨rfl,.inl h0,.refl _⟩⟩
 | some S=>
  cases h1:getE E (q,p) with
  | none=>
   refine (flip_n1 mb b E p q hk S h0 h1 w Bm Hm).mono ?_;rintro e w' ⟨rfl,hb⟩;exact ⟨16,E,L,rfl,zM hb _,Hm.ee hb,g,.inl ⟨rfl,.inr h1,.refl _⟩⟩
  | some R=>
   have hS:=ye (g.val _ (g.get.1 h0).1);have hR:=ye (g.val _ (g.get.1 h1).1);by_cases hm:meetS p q (apx S p q) (apx R p q)=1
   ·refine (flip_g mb b E p q hk L g S R _ _ _ _ h0 h1 rfl rfl hm rfl rfl hS hR (mk_okT _ _ _) (mk_okT _ _ _) w Bm Hm).mono ?_;rintro e w' ⟨r,E',L',rfl,hg,H',g',hr⟩;exact ⟨r,E',L',rfl,hg,H',g',.inr ⟨S,R,h0,h1,.inr ⟨hm,hr⟩⟩⟩
   ·refine (flip_m mb b E p q hk S R _ _ h0 h1 rfl rfl hm w Bm Hm).mono ?_;rintro e w' ⟨rfl,hb⟩;exact ⟨2,E,L,rfl,zM hb _,Hm.ee hb,g,.inr ⟨S,R,h0,h1,.inl ⟨hm,rfl,.refl _⟩⟩⟩
end
end Go.Proofs.YtmpfadapbbjbkaaGreat
