/- Put together: FenQ. -/
import Derived.Test.YtogffkimgmlilaaGreatPfb36
import Derived.Test.YtogffkimgmlilaaGreatPfb37
set_option maxRecDepth 100000
set_option maxHeartbeats 8000000
set_option linter.all false
namespace Go.Proofs.YtogffkimgmlilaaGreat
section
open Go.RowKit
theorem zJ8 {p q:Pt} (h:p≠q):(cmpP p q < 0∧¬ cmpP q p < 0)∨(cmpP q p < 0∧¬ cmpP p q < 0):=by
 have h0:cmpP p q≠0:=fun e=>h (cmpP_eq0.1 e);have:=zAv p q;omega
theorem zLz {p q:Pt} (h:p≠q):rl q p=rl p q∧rg q p=rg p q:=by
 unfold rl rg;rcases zJ8 h with ⟨h1,h2⟩ | ⟨h1,h2⟩
 ·simp [h1,h2]
 ·simp [h1,h2]
theorem rlg_less {p q:Pt} (h:p≠q):cmpP (rl p q) (rg p q) < 0:=by
 unfold rl rg;rcases zJ8 h with ⟨h1,h2⟩ | ⟨h1,h2⟩
 ·simp [h1]
 ·simp [h1,h2]
def nrm (e:Pt×Pt):Wl:=⟨rl e.1 e.2,rg e.1 e.2,0⟩
theorem zFo (e:Pt×Pt):nrm e=⟨e.1,e.2,0⟩∨nrm e=⟨e.2,e.1,0⟩:=by
 unfold nrm;rcases zKc e.1 e.2 with ⟨h1,h2⟩ | ⟨h1,h2⟩
 ·rw [h1,h2];exact .inl rfl
 ·rw [h1,h2];exact .inr rfl
theorem zJk {p q:Pt} (h:p≠q):nrm (q,p)=nrm (p,q):=by
 unfold nrm;rw [(zLz h).1,(zLz h).2]
theorem Crs.apart {a b l r:Pt} (h:Crs a b l r):l≠r:=fun e=>by
 have:=h.left;have:=h.right;rw [e] at *;omega
theorem zJy {a b l r:Pt} (va:vld a=true) (vb:vld b=true) (vl:vld l=true) (vr:vld r=true) (h:Crs a b l r):meetR a b l r=1:=by
 rw [zEq];have e1:det l r a = - det r l a:=by unfold det;grind
 have:=h.left;have:=h.right;have:=h.back;have:=h.front;exact ⟨⟨va,vb,vl,vr⟩,by omega,by omega⟩
theorem zMi {a b c d:Pt} (h:meetR a b c d=1):Crs a b c d∨Crs a b d c:=by
 rw [zEq] at h;obtain ⟨_,h1,h2⟩:=h;have e1:det d c a = - det c d a:=by unfold det;grind
 have e2:det d c b = - det c d b:=by unfold det;grind
 have e3:det d c a+det c d b=det a b c - det a b d:=by unfold det;grind
 rcases h1 with ⟨k1,k2⟩ | ⟨k1,k2⟩ <;> rcases h2 with ⟨j1,j2⟩ | ⟨j1,j2⟩
 ·omega
 ·exact .inl ⟨k1,k2,by omega,by omega⟩
 ·exact .inr ⟨k2,k1,by omega,by omega⟩
 ·omega
theorem zMv {W H:Int} (hW:W < 16777216) (hH:H < 16777216) {E:Es} {L:List Tri3} (g:Good E L) (t:Tiles W H L) {p q c d:Pt} {S R:Tri3} (mS:S∈L) (mR:R∈L) (cS:Cyc S p q c) (cR:Cyc R q p d):(getE E (p,q)=some S∧getE E (q,p)=some R)∧(apx S p q=c∧apx R p q=d)∧(0 < det c p d∧0 < det d q c→(flipD E p q).1=0∧∃ U V L',Good (flipD E p q).2 L'∧Tiles W H L'∧(∀ T∈L,T≠S→T≠R→T∈L')∧U∈L'∧V∈L'∧Cyc U c p d∧Cyc V d q c)∧(¬ (0 < det c p d∧0 < det d q c)→flipD E p q=(2,E)):=by
 have h0:=g.get.2 ⟨mS,cS.way⟩;have h1:=g.get.2 ⟨mR,cR.way⟩;have p1:=t.cyc_pos mS cS;have p2:=t.cyc_pos mR cR;obtain ⟨n1,n2,n3⟩:=zAb p1;obtain ⟨m1,m2,m3⟩:=zAb p2;have e1:apx S p q=c:=(zD6 cS n1 n2 n3).1;have e2:apx R p q=d:=(zD6 cR m1 m2 m3).2;obtain ⟨_,_,_,vp,vq,vc,vd⟩:=zDj g h0 h1;rw [e1] at vc;rw [e2] at vd;have hs:=zCc h0 h1;rw [e1,e2] at hs;have d1:det p d c=det c p d:=by unfold det;grind
 have o1:=zDf vp vd vc;rw [d1] at o1;have o2:=zDf vd vq vc;refine ⟨⟨h0,h1⟩,⟨e1,e2⟩,fun k=>?_,fun k=>?_⟩
 ·have he:=g.get_none.2 (t.no_diag mS cS k.1 k.2);have hf:=g.get_none.2 (t.no_diag mR cR k.2 k.1);obtain ⟨_,M,pM,g'⟩:=zCm g h0 h1 e1 e2 (o1.2 k.1) (o2.2 k.2) he hf;rw [jAc ⟨o1.2 k.1,o2.2 k.2,he,hf⟩] at hs;rw [hs];have f:Flp (fun _ _=>False) L S R M p q c d:=⟨pM,cS,cR,⟨id,id⟩,k.1,k.2⟩;have e:mk p d c=mk c p d:=zJq _ _ _;rw [e] at g' ⊢;obtain ⟨u,v⟩:=f.news t hW hH;refine ⟨rfl,mk c p d,mk d q c,_,g',f.tiles t hW hH,fun T hT x y=>?_,by simp,by simp,u.1,v.1⟩;have:=pM.mem_iff.1 hT;simp only [jA1] at this;rcases this with h | h | h
  ·exact absurd h x
  ·exact absurd h y
  ·simp [h]
 ·rw [hs,jA0 (fun j=>k ⟨o1.1 j.1,o2.1 j.2.1⟩)]
theorem ch_in {L:List Tri3} {a b:Pt} {P:List (Pt×Pt)} (hP:Ch L a b none P):∀ e∈P,e∈L.flatMap ways:=by
 intro e he;obtain ⟨X,Y,e1⟩:=jDb he;rw [e1] at hP;have:=(zDn.1 hP).2;cases Y with
 | nil=>obtain ⟨T,hT,hc⟩:=this;exact mem_flat hT hc.way
 | cons f Y=>obtain ⟨⟨T,hT,v',hc,_⟩,_⟩:=this;exact mem_flat hT hc.way
theorem force_run {W H:Int} (hW:W < 16777216) (hH:H < 16777216) {a b:Pt} (ba:inBox W H a) (bb:inBox W H b):∀ (n:Nat) {E:Es} {L:List Tri3} {P R:List (Pt×Pt)} {m:Nat},Good E L→Tiles W H L→Ch L a b none P→(∀ e∈P,Crs a b e.1 e.2)→P.Nodup→R.Perm P→(P≠[]→Pot a b P R m∧m+1+turns (P.length - 1)≤n)→∃ L',Good (forceR a b n E (R.map nrm)).1 L'∧Tiles W H L'∧((a,b)∈L'.flatMap ways∨(b,a)∈L'.flatMap ways):=by
 have vb:∀ q,inBox W H q→vld q=true:=fun q hq=>by rw [zAm];unfold inBox at hq;omega
 intro n;induction n with
 | zero=>
  intro E L P R m g t hP hx hd hR hm;by_cases h0:P=[]
  ·subst h0;rw [hR.eq_nil];exact ⟨L,g,t,hP⟩
  ·have:=(hm h0).2;omega
 | succ n ih=>
  intro E L P R m g t hP hx hd hR hm;by_cases h0:P=[]
  ·subst h0;rw [hR.eq_nil];exact ⟨L,g,t,hP⟩
  obtain ⟨hpot,hfu⟩:=hm h0;clear hm;cases R with
  | nil=>exact absurd hR.symm.eq_nil h0
  | cons w R=>
   have hw:w∈P:=hR.mem_iff.1 (by simp);obtain ⟨A,B,rfl⟩:=jDb hw;have cw:=hx w hw;have iw:=ch_in hP w hw;obtain ⟨S,mS,wS⟩:=jAh.1 iw;obtain ⟨v,cS⟩:=zBd (a:=w.1) (b:=w.2) wS;obtain ⟨T,mT,wT⟩:=jAh.1 ((t.other ba bb cw).1 iw);obtain ⟨u,cT⟩:=zBd wT;have hA:At L w S T u v:=⟨mS,mT,cS,cT⟩;have nuv:u≠v:=fun e=>by
    have p1:=t.cyc_pos mS cS;have p2:=t.cyc_pos mT cT;rw [e] at p2;have e3:det w.2 w.1 v = - det w.1 w.2 v:=by unfold det;grind
    omega
   have X : ∃ S0 R0, (getE E ((nrm w).A, (nrm w).B) = some S0 ∧ getE E ((nrm w).B, (nrm w).A) = some R0) ∧ ((apx S0 (nrm w).A (nrm w).B = v ∧ apx R0 (nrm w).A (nrm w).B = u) ∨ (apx S0 (nrm w).A (nrm w).B = u ∧ apx R0 (nrm w).A (nrm w).B = v)) ∧
       (0 < det v w.1 u∧0 < det u w.2 v→(flipD E (nrm w).A (nrm w).B).1=0∧∃ U V L',Good (flipD E (nrm w).A (nrm w).B).2 L'∧Tiles W H L'∧(∀ X∈L,X≠S→X≠T→X∈L')∧U∈L'∧V∈L'∧Cyc U v w.1 u∧Cyc V u w.2 v) ∧
       (¬ (0 < det v w.1 u∧0 < det u w.2 v)→flipD E (nrm w).A (nrm w).B=(2,E)):=by
    rcases zFo w with e | e <;> rw [e]
    ·obtain ⟨k1,k2,k3,k4⟩:=zMv hW hH g t mS mT cS cT;exact ⟨S,T,k1,.inl k2,k3,k4⟩
    ·obtain ⟨k1,k2,k3,k4⟩:=zMv hW hH g t mT mS cT cS;refine ⟨T,S,k1,.inr k2,fun k=>?_,fun k=>k4 (fun j=>k ⟨j.2,j.1⟩)⟩;obtain ⟨j1,U,V,L',j2,j3,j4,j5,j6,j7,j8⟩:=k3 ⟨k.2,k.1⟩;exact ⟨j1,V,U,L',j2,j3,fun X hX x y=>j4 X hX y x,j6,j5,j8,j7⟩
   obtain ⟨S0,R0,⟨h1,h2⟩,hap,hyes,hno⟩:=X;have hs:=zEm (a:=a) (b:=b) (Q:=R.map nrm) h1 h2;show ∃ L',Good (forceR a b n (fstep a b E (nrm w) (R.map nrm)).1 (fstep a b E (nrm w) (R.map nrm)).2).1 L'∧_;by_cases o:0 < det v w.1 u∧0 < det u w.2 v
   ·obtain ⟨k1,U,V,L',g',t',hk,hU,hV,cU,cV⟩:=hyes o;rw [jA0 (by rw [k1];simp)] at hs;have bu:=t.cyc_box mT cT.turn.turn;have bv:=t.cyc_box mS cS.turn.turn;rcases Ch.flip t hP hx hd hA hk hU hV cU cV o.1 o.2 with ⟨A0,p,q,B0,f,rfl,rfl,hf,cf,hP',nf,_,hup⟩ | ⟨hnc,hP'⟩
    ·have hmt : meetR a b (apx S0 (nrm w).A (nrm w).B) (apx R0 (nrm w).A (nrm w).B) = 1 ∧ (⟨rl (apx S0 (nrm w).A (nrm w).B) (apx R0 (nrm w).A (nrm w).B), rg (apx S0 (nrm w).A (nrm w).B) (apx R0 (nrm w).A (nrm w).B), 0⟩ : Wl) = nrm f := by
       have muv:meetR a b u v=1∧nrm (u,v)=nrm f:=by
        rcases hf with rfl | rfl
        ·exact ⟨zJy (vb _ ba) (vb _ bb) (vb _ bu) (vb _ bv) cf,rfl⟩
        ·exact ⟨zEh (zJy (vb _ ba) (vb _ bb) (vb _ bv) (vb _ bu) cf),zJk nuv.symm⟩
       rcases hap with ⟨x1,x2⟩ | ⟨x1,x2⟩ <;> rw [x1,x2]
       ·exact ⟨zEh muv.1,(zJk nuv).trans muv.2⟩
       ·exact muv
     rw [jAc hmt.1,hmt.2] at hs;rw [hs];have em:R.map nrm ++ [nrm f]=(R ++ [f]).map nrm:=by simp
     rw [em];have e1:(A0 ++ [p]) ++ w :: q :: B0=A0 ++ p :: w :: q :: B0:=by simp
     have e2:(A0 ++ [p]) ++ f :: q :: B0=A0 ++ p :: f :: q :: B0:=by simp
     rw [e1] at hd hR hpot nf hx hfu;rw [e2] at hP';obtain ⟨m',rfl,hpot'⟩:=pot_swap hd hR hup hpot;have hR':(R ++ [f]).Perm (A0 ++ p :: f :: q :: B0):=by
      have k:R.Perm (A0 ++ p :: q :: B0):=by
       have k0:(A0 ++ p :: w :: q :: B0).Perm (w :: (A0 ++ p :: q :: B0)):=by
        have:=jC2 (a:=w) (l₁:=A0 ++ [p]) (l₂:=q :: B0)
        simpa using this
       exact (hR.trans k0).cons_inv
      have k0:(A0 ++ p :: f :: q :: B0).Perm (f :: (A0 ++ p :: q :: B0)):=by
       have:=jC2 (a:=f) (l₁:=A0 ++ [p]) (l₂:=q :: B0)
       simpa using this
      exact ((List.perm_append_singleton f R).trans (k.cons f)).trans k0.symm
     have hx':∀ e∈A0 ++ p :: f :: q :: B0,Crs a b e.1 e.2:=fun e he=>by
      simp only [jAg,jA1] at he;rcases he with he | he | he | he
      ·exact hx e (by simp [he])
      ·exact hx e (by simp [he])
      ·rw [he];exact cf
      ·exact hx e (by simp only [jAg,jA1];exact .inr (.inr (.inr he)))
     have hd':(A0 ++ p :: f :: q :: B0).Nodup:=by
      have k0:(A0 ++ p :: f :: q :: B0).Perm (f :: (A0 ++ p :: q :: B0)):=by
       have:=jC2 (a:=f) (l₁:=A0 ++ [p]) (l₂:=q :: B0)
       simpa using this
      have k1:(A0 ++ p :: w :: q :: B0).Perm (w :: (A0 ++ p :: q :: B0)):=by
       have:=jC2 (a:=w) (l₁:=A0 ++ [p]) (l₂:=q :: B0)
       simpa using this
      have k2:=k1.nodup_iff.1 hd;rw [jAu] at k2;exact k0.nodup_iff.2 (jAu.2 ⟨fun k=>nf (k1.mem_iff.2 (jAi _ k)),k2.2⟩)
     refine ih g' t' hP' hx' hd' hR' (m:=m') (fun _=>⟨hpot',?_⟩);have el:(A0 ++ p :: f :: q :: B0).length=(A0 ++ p :: w :: q :: B0).length:=by simp
     rw [el];omega
    ·have hmt : ¬ meetR a b (apx S0 (nrm w).A (nrm w).B) (apx R0 (nrm w).A (nrm w).B) = 1 := fun k => by
       have muv:meetR a b u v=1:=by
        rcases hap with ⟨x1,x2⟩ | ⟨x1,x2⟩ <;> rw [x1,x2] at k
        ·exact zEh k
        ·exact k
       exact hnc (by have:=(zEq.1 muv).2.1;omega)
     rw [jA0 hmt] at hs;rw [hs];have k1:(A ++ w :: B).Perm (w :: (A ++ B)):=jC2;have hR':R.Perm (A ++ B):=(hR.trans k1).cons_inv;have hd':=k1.nodup_iff.1 hd;rw [jAu] at hd';have hx':∀ e∈A ++ B,Crs a b e.1 e.2:=fun e he=>hx e (k1.mem_iff.2 (jAi _ he));refine ih g' t' hP' hx' hd'.2 hR' (m:=(A ++ B).length * (A ++ B).length+((A ++ B).length - 1)) (fun hne=>⟨zNz hR' hne,?_⟩);have el:(A ++ w :: B).length=(A ++ B).length+1:=by simp;omega
     rw [el] at hfu;obtain ⟨z,hz⟩:∃ z,(A ++ B).length=z+1:=⟨(A ++ B).length - 1,by have:=jEf.2 hne;omega⟩;rw [hz] at hfu ⊢;have et:turns (z+1)=(z+1) * (z+1)+(z+1)+turns z:=rfl;simp only [Nat.add_sub_cancel] at hfu ⊢;omega
   ·have hf:=hno o;rw [hf,jAc (by simp)] at hs;rw [hs];have em:R.map nrm ++ [nrm w]=(R ++ [w]).map nrm:=by simp
    simp only [em];have hst:∀ A' B',A ++ w :: B=A' ++ w :: B'→(A'=[]∨∃ A0 p,A'=A0 ++ [p]∧up a b p w)→∃ q B0,B'=q :: B0∧up a b w q:=fun A' B' e hl=>by
     rw [e] at hP hx;exact Ch.stays t hP hx hA o hl
    obtain ⟨m',rfl,hpot'⟩:=pot_stay hd hR hst hpot;refine ih g t hP hx hd ((List.perm_append_singleton w R).trans hR) (m:=m') (fun _=>⟨hpot',by omega⟩)
theorem nodup_sub {α:Type} [DecidableEq α]:∀ {l m:List α},l.Nodup→(∀ x∈l,x∈m)→l.length≤m.length
 | [],_,_,_=>jAt _
 | x :: l,m,hd,h=>by
  rw [jAu] at hd;have hx:=h x (by simp);have k:=nodup_sub (l:=l) (m:=m.erase x) hd.2 (fun y hy=>(jEt (fun e:y=x=>hd.1 (by rw [←e];exact hy))).2 (h y (jAi _ hy)));rw [List.length_erase_of_mem hx] at k;have:=jDn hx;simp;omega
theorem zMj {α β:Type} {f:α→β}:∀ {Q:List β} {P:List α},Q.Perm (P.map f)→∃ R:List α,R.Perm P∧Q=R.map f
 | [],P,h=>⟨[],by have:=h.symm.eq_nil;simp at this;rw [this],rfl⟩
 | x :: Q,P,h=>by
  obtain ⟨p,hp,rfl⟩:=jAk.1 (h.mem_iff.1 (jAo (a:=x) (l:=Q)));obtain ⟨A,B,rfl⟩:=jDb hp;have k:(A ++ p :: B).Perm (p :: (A ++ B)):=jC2;obtain ⟨R,h1,h2⟩:=zMj (Q:=Q) (P:=A ++ B) ((h.trans (k.map f)).cons_inv);exact ⟨p :: R,(h1.cons p).trans k.symm,by rw [h2];rfl⟩
theorem cross_perm {W H:Int} (hW:W < 16777216) (hH:H < 16777216) {a b:Pt} (ba:inBox W H a) (bb:inBox W H b) {E:Es} {L:List Tri3} (g:Good E L) (t:Tiles W H L) {P:List (Pt×Pt)} (hP:Ch L a b none P) (hx:∀ e∈P,Crs a b e.1 e.2) (hd:P.Nodup) (hall:∀ e:Pt×Pt,Crs a b e.1 e.2→e∈L.flatMap ways→e∈P):(crossD a b E).Perm (P.map nrm):=by
 have vb:∀ q,inBox W H q→vld q=true:=fun q hq=>by rw [zAm];unfold inBox at hq;omega
 have inE:∀ {w:Pt×Pt},w∈L.flatMap ways→∃ T,(w,T)∈E:=fun {w} hw=>by
  obtain ⟨T,hT,k⟩:=jAh.1 hw;exact ⟨T,g.perm.mem_iff.2 (wys_mem.2 ⟨hT,k⟩)⟩
 have ofE:∀ {w:Pt×Pt} {T:Tri3},(w,T)∈E→w∈L.flatMap ways:=fun {w T} hw=>by
  obtain ⟨k1,k2⟩:=wys_mem.1 (g.perm.mem_iff.1 hw);exact mem_flat k1 k2
 have bx:∀ {w:Pt×Pt},w∈L.flatMap ways→inBox W H w.1∧inBox W H w.2:=fun {w} hw=>by
  obtain ⟨T,hT,k⟩:=jAh.1 hw;obtain ⟨c,hc⟩:=zBd (a:=w.1) (b:=w.2) k;exact ⟨t.cyc_box hT hc,t.cyc_box hT hc.turn⟩
 refine (jEb ?_ ?_).2 fun x=>⟨fun h=>?_,fun h=>?_⟩
 ·unfold crossD;unfold List.Nodup;rw [List.pairwise_filterMap];have hk:E.Pairwise (fun e f=>e.1≠f.1):=jE9.1 g.nodup;refine hk.imp fun {e f} hne x hx y hy e1=>hne ?_;split at hx
  ·split at hy
   ·simp only [jCh] at hx hy;rw [←hx,←hy] at e1;simp only [Wl.mk.injEq,jE8] at e1;exact jFf e1.1 e1.2
   ·cases hy
  ·cases hx
 ·unfold List.Nodup;rw [jE9];refine jE0 (fun {e f} he hf hne h=>hne ?_) hd;have ce:=hx e he;have cf:=hx f hf;rcases zFo e with k | k <;> rcases zFo f with j | j <;> rw [k,j] at h <;> simp only [Wl.mk.injEq,jE8] at h
  ·exact jFf h.1 h.2
  ·have:=ce.left;have:=cf.right;rw [h.1] at *;omega
  ·have:=cf.left;have:=ce.right;rw [h.1] at *;omega
  ·exact jFf h.2 h.1
 ·obtain ⟨h0,h1,h2,T,h3⟩:=zDl h;have hw:=ofE h3;have e0:nrm (x.A,x.B)=x:=by
   unfold nrm rl rg;simp only [h1,jDs];rw [←h0]
  rcases zMi h2 with k | k
  ·exact jAk.2 ⟨(x.A,x.B),hall _ k hw,e0⟩
  ·refine jAk.2 ⟨(x.B,x.A),hall _ k ((t.other ba bb k).2 hw),?_⟩;rw [zJk k.apart.symm,e0]
 ·obtain ⟨e,he,rfl⟩:=jAk.1 h;have ce:=hx e he;have hw:=ch_in hP e he;obtain ⟨b1,b2⟩:=bx hw;have m1:=zJy (vb _ ba) (vb _ bb) (vb _ b1) (vb _ b2) ce;have hw2:((nrm e).A,(nrm e).B)∈L.flatMap ways:=by
   rcases zFo e with k | k <;> rw [k]
   ·exact hw
   ·exact (t.other ba bb ce).1 hw
  obtain ⟨T,hT⟩:=inE hw2;unfold crossD;refine jDc.2 ⟨_,hT,?_⟩;have k1:cmpP (nrm e).A (nrm e).B < 0:=rlg_less ce.apart;have k2:meetR a b (nrm e).A (nrm e).B=1:=zMh m1;simp only [k1,k2,decide_true,Bool.and_self,jDs];rfl
theorem force_edge {W H:Int} (hW0:0 < W) (hH0:0 < H) (hW:W < 16777216) (hH:H < 16777216) {a b:Pt} (hab:a≠b) {E:Es} {L:List Tri3} (g:Good E L) (t:Tiles W H L) (hn:L.length≤94) (hB:Bare L a b) (ha:someC L a) (hb:someC L b) {Q:List Wl} (hQ:Q.Perm (crossD a b E)):∃ L',Good (forceR a b capN E Q).1 L'∧Tiles W H L'∧((a,b)∈L'.flatMap ways∨(b,a)∈L'.flatMap ways):=by
 have inb:∀ {p},someC L p→inBox W H p:=fun {p} ⟨T,hT,hc⟩=>by
  obtain ⟨y,z,k⟩:=zCf hc;exact t.cyc_box hT k
 have ba:=inb ha;have bb:=inb hb;obtain ⟨P,hP,hx,hd,hall⟩:=t.channel hW0 hH0 hab hB ha hb;obtain ⟨R,hR,rfl⟩:=zMj (hQ.trans (cross_perm hW hH ba bb g t hP hx hd hall));have hlen:P.length≤141:=by
  have k:=nodup_sub (l:=P ++ P.map (fun e=>(e.2,e.1))) (m:=L.flatMap ways) (by
   rw [jAz];refine ⟨hd,?_,fun e he f hf k=>?_⟩
   ·unfold List.Nodup;rw [jE9];refine hd.imp fun {e f} hne h=>hne ?_;simp only [jB6] at h;exact jFf h.2 h.1
   ·obtain ⟨f0,hf0,rfl⟩:=jAk.1 hf;have:=(hx e he).left;have:=(hx f0 hf0).right;rw [k] at *;simp only at *;omega) (fun e he=>by
   rcases jAg.1 he with he | he
   ·exact ch_in hP e he
   ·obtain ⟨f,hf,rfl⟩:=jAk.1 he;exact (t.other ba bb (hx f hf)).1 (ch_in hP f hf))
  have e:(L.flatMap ways).length=3 * L.length:=by
   rw [←zFy,jCl,zLq]
  rw [e] at k;simp at k;omega
 refine force_run hW hH ba bb capN g t hP hx hd hR (m:=P.length * P.length+(P.length - 1)) (fun hne=>⟨zNz hR hne,?_⟩);obtain ⟨z,hz⟩:∃ z,P.length=z+1:=⟨P.length - 1,by have:=jEf.2 hne;omega⟩;have et:turns (z+1)=(z+1) * (z+1)+(z+1)+turns z:=rfl;have hm:turns (z+1)≤turns 141:=turns_mono (by omega);have ht:turns 141≤capN:=by decide +kernel
 rw [hz];simp only [Nat.add_sub_cancel];omega
end
end Go.Proofs.YtogffkimgmlilaaGreat
