import Derived.Test.YtmpfadapbbjbkaaGreatPgt15
set_option maxRecDepth 100000
set_option maxHeartbeats 8000000
set_option linter.all false
namespace Go.Proofs.YtmpfadapbbjbkaaGreat
section
open Go.RowKit Go.Sort
theorem gr_ins {L:List Wl} {X:Wl} {k:Nat} (x:Wl):x∈insW L X k↔x=X\/x∈L:=(yk L X k).mem_iff.trans (by simp)
theorem gr_kinds {D D':List Wl} {p:Pt} {X:Wl} (ha:Apart D) (hg:∀ x∈D,GoodW x) (ha':Apart D') (hg':∀ x∈D',GoodW x) (h:AddD D p D') (hX:D.find? (onD p)=some X):kindW D' (lo2 X.A X.B) (hi2 X.A X.B)=0/\kindW D' (lo2 X.A p) (hi2 X.A p)=X.K/\kindW D' (lo2 p X.B) (hi2 p X.B)=X.K:=by
 have hm:=Jr hX;have ho:=VC hX;unfold onD at ho;simp only [Ko,V8,QB] at ho;obtain ⟨nA,nB,_⟩:=ho;obtain ⟨lA,lB⟩:=vP (hg _ hm);rcases h with ⟨n1,_⟩ | ⟨Y,r,D1,k1,k2,hY,hR,_,_,rfl⟩
 ·rw [n1] at hX;cases hX
 ·obtain rfl:X=Y:=by rw [hX] at hY;exact JL hY
  have m1:(⟨X.A,p,X.K⟩:Wl)∈insW (insW D1 ⟨X.A,p,X.K⟩ k1) ⟨p,X.B,X.K⟩ k2:=(gr_ins _).2 (.inr ((gr_ins _).2 (.inl rfl)));have m2:(⟨p,X.B,X.K⟩:Wl)∈insW (insW D1 ⟨X.A,p,X.K⟩ k1) ⟨p,X.B,X.K⟩ k2:=(gr_ins _).2 (.inl rfl);have w1:=kind_own ha' hg' m1;have w2:=kind_own ha' hg' m2;obtain ⟨a1,b1⟩:=vP (hg' _ m1);obtain ⟨a2,b2⟩:=vP (hg' _ m2);refine ⟨?_,by rw [a1,b1];exact w1,by rw [a2,b2];exact w2⟩;rw [lA,lB];unfold kindW;cases hf:(insW (insW D1 ⟨X.A,p,X.K⟩ k1) ⟨p,X.B,X.K⟩ k2).find? (isW X.A X.B) with
  | none=>rfl
  | some y=>
   exfalso
   have hy:=Jr hf;have e:=xY.1 (VC hf);rcases (gr_ins _).1 hy with rfl | hy
   ·exact nA e.1
   ·rcases (gr_ins _).1 hy with rfl | hy
    ·exact nB e.2
    ·rw [(Xk X.A X.B).1,(Xk X.A X.B).2,lA,lB] at hR;rcases hR with ⟨_,_,h0⟩ | ⟨_,k,hk,hW,rfl⟩
     ·have:=h0 X hm;rw [xY.2 ⟨rfl,rfl⟩] at this;cases this
     ·have eW:=xY.1 hW;have hne:∃ (j:Nat) (hj:j < D.length),j≠k/\D[j]=y:=by
       rcases JG.1 hy with h1 | h1
       ·obtain ⟨j,hj,e1⟩:=QU.1 h1;rw [JV] at hj;exact ⟨j,by omega,by omega,by rw [<-e1,Vo]⟩
       ·obtain ⟨j,hj,e1⟩:=QU.1 h1;rw [JR] at hj;exact ⟨k+1+j,by omega,by omega,by rw [<-e1,Vp]⟩
      obtain ⟨j,hj,hjk,rfl⟩:=hne;have:=kR ha hj hk hjk;rw [e.1,e.2,eW.1,eW.2] at this;have hs:=xX (hg _ hm);exact hs this
theorem gr_facts {s:Int} {x:Pt} {E E':Es} {L L':List Tri3} {D D':List Wl} {r:Int} (hx:inBox s s x) (hl:L.length<=52/\D.length<=6000) (I:CInvW s s E L D) (I':CInvW s s E' L' D') (T:GTold s L D x r L' D'):(D.find? (onD x)=none->(r=0\/r=5)/\D'=D)/\(∀ X,D.find? (onD x)=some X->r=0/\kindW D' (lo2 X.A X.B) (hi2 X.A X.B)=0/\kindW D' (lo2 X.A x) (hi2 X.A x)=X.K/\kindW D' (lo2 x X.B) (hi2 x X.B)=X.K/\wrap64 ((D.length:Int)+1)=(D'.length:Int)/\IntKind.i64.wrap ((D.length:Int)+1)=(D'.length:Int)):=by
 obtain ⟨t1,_,_,_,t3,t4⟩:=T;have hr:r=0\/r=5:=by
  rcases t1 with ⟨_,h⟩ | ⟨h,_⟩ | ⟨h,_⟩
  ·exact absurd hx h
  ·exact .inr h
  ·exact .inl h
 constructor
 ·intro hn;refine ⟨hr,?_⟩;by_cases h0:r=0
  ·rcases (t3 h0).1 with ⟨_,e⟩ | ⟨X,_,_,_,_,h,_⟩
   ·exact e
   ·rw [hn] at h;cases h
  ·exact (t4 h0).2
 ·intro X hX;have hm:=Jr hX;have ho:=VC hX;unfold onD at ho;simp only [Ko,V8,QB] at ho;have h0:r=0:=by
   rcases t1 with ⟨_,h⟩ | ⟨_,_,h⟩ | ⟨h,_⟩
   ·exact absurd hx h
   ·rcases I.fix.tiles.corner_in (I.wal.edge _ hm) h (by rw [on_eq];exact ho.2.2) with e | e
    ·exact absurd e ho.1
    ·exact absurd e ho.2.1
   ·exact h
  obtain ⟨h1,_,h3⟩:=t3 h0;obtain ⟨k1,k2,k3⟩:=gr_kinds I.wal.apart I.wal.good I'.wal.apart I'.wal.good h1 hX;rw [hX] at h3;simp only [Option.isSome_some,VS] at h3;refine ⟨h0,k1,k2,k3,?_,?_⟩
  ·rw [w64];omega
  ·rw [IntKind.wrap_i64];omega
end
end Go.Proofs.YtmpfadapbbjbkaaGreat
