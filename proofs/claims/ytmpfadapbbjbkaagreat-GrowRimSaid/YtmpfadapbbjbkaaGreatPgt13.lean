import Derived.Test.YtmpfadapbbjbkaaGreatPgt11
set_option maxRecDepth 100000
set_option maxHeartbeats 8000000
set_option linter.all false
namespace Go.Proofs.YtmpfadapbbjbkaaGreat
section
open Go.RowKit
theorem addD_same {D D1 D2:List Wl} {p:Pt} (hr:Ris D) (ha:Apart D) (hg:∀ x∈D,GoodW x) (h1:AddD D p D1) (h2:AddD D p D2) (r1:Ris D1) (r2:Ris D2):D1=D2:=by
 rcases h1 with ⟨n1,rfl⟩ | ⟨X,s1,M1,i1,j1,f1,m1,_,_,rfl⟩ <;> rcases h2 with ⟨n2,rfl⟩ | ⟨Y,s2,M2,i2,j2,f2,m2,_,_,rfl⟩
 ·rfl
 ·rw [n1] at f2;cases f2
 ·rw [n2] at f1;cases f1
 ·obtain rfl:X=Y:=by rw [f1] at f2;exact JL f2
  have e:M1=M2:=(Kd hr ha hg m1).2.trans (Kd hr ha hg m2).2.symm;subst e;refine qE wholeW r1 r2 λx=>?_;exact (((yk _ _ _).trans ((yk _ _ _).cons _)).trans ((yk _ _ _).trans ((yk _ _ _).cons _)).symm).mem_iff
theorem addRes_same {W H:Int} {L1 L2:List Tri3} {p:Pt} {r1 r2:Int} (c:∀ q,someC L1 q↔someC L2 q) (h1:AddRes W H L1 p r1) (h2:AddRes W H L2 p r2):r1=r2:=by
 have:=c p;rcases h1 with ⟨rfl,a⟩ | ⟨rfl,a,b⟩ | ⟨rfl,a,b⟩ <;> rcases h2 with ⟨rfl,a2⟩ | ⟨rfl,a2,b2⟩ | ⟨rfl,a2,b2⟩ <;> first | rfl | (exfalso;exact absurd a a2) | (exfalso;exact absurd a2 a) | (exfalso;exact b2 (this.1 b)) | (exfalso;exact b (this.2 b2))
open Go.Sort
theorem Yt {w w':World} {p:Nat->Prop} {b:Nat} {E:Es} (H:Hs w b E) (h:Frm w w' p) (h1:¬ p b):Hs w' b E:=by
 have hlt:=H.lt;obtain ⟨es,clock,hb,r⟩:=H;exact ⟨es,clock,(h.block b hlt h1).trans hb,r⟩
theorem CdtAt.keep {w w':World} {cb mb b db:Nat} {v:Value} {W H:Int} {E:Es} {D:List Wl} {p:Nat->Prop} (S:CdtAt w cb mb b db v W H E D) (h:Frm w w' p) (h1:¬ p cb) (h2:¬ p mb) (h3:¬ p b) (h4:¬ p db) (h5:∀ g,v.ownBlock=some g->¬ p g):CdtAt w' cb mb b db v W H E D:=
 ⟨h.box S.box h1,h.box S.mesh h2,Yt S.map h h3,⟨h.box S.doc.box h4,h.row S.doc.row h5,S.doc.ne,S.doc.le⟩,S.cdb,S.mdb⟩
structure Apd (n1 m b2 sb:Nat) (v:Value) (cb mb b db:Nat) (vd:Value):Prop where
 ac:Apt b2 sb v cb
 am:Apt b2 sb v mb
 ab:Apt b2 sb v b
 ad:Apt b2 sb v db
 ao:∀ g,vd.ownBlock=some g->Apt b2 sb v g
 nb:m≠b
 nd:m≠db
 lo:n1<=b2/\(∀ k,Foot sb v k->n1<=k)/\n1<=b/\n1<=db
structure Two9 (s:Int) (n1:Nat) (w:World) (m b2 sb:Nat) (v:Value) (E:Es) (L:List Tri3) (D:List Wl) (cb mb b db:Nat) (vd:Value) (E1:Es) (L1:List Tri3) (D1:List Wl):Prop where
 S:GSt s w m b2 sb v E L D
 C:CdtAt w cb mb b db vd s s E1 D1
 I:CInvW s s E1 L1 D1
 A:Apd n1 m b2 sb v cb mb b db vd
section
variable {s:Int} {n1:Nat} {w w':World} {m b2 sb:Nat} {v v':Value} {E E':Es} {L L':List Tri3} {D D':List Wl} {cb mb b db:Nat} {vd vd':Value} {E1 E1':Es} {L1 L1':List Tri3} {D1 D1':List Wl}
theorem Two9.ext {n:Nat} (B:Two9 s n1 w m b2 sb v E L D cb mb b db vd E1 L1 D1) (hb:Below n w w') (hn:n=w.heap.size):Two9 s n1 w' m b2 sb v E L D cb mb b db vd E1 L1 D1:=
 ⟨B.S.ext hb hn,B.C.ext hb hn,B.I,B.A⟩
theorem Two9.ee {s:Int} {n1:Nat} {w w':World} {m b2 sb:Nat} {v:Value} {E:Es} {L:List Tri3} {D:List Wl} {cb mb b db:Nat} {vd:Value} {E1:Es} {L1:List Tri3} {D1:List Wl} (B:Two9 s n1 w m b2 sb v E L D cb mb b db vd E1 L1 D1) (hb:Below w w w'):Two9 s n1 w' m b2 sb v E L D cb mb b db vd E1 L1 D1:=B.ext hb rfl
theorem Two9.prog (B:Two9 s n1 w m b2 sb v E L D cb mb b db vd E1 L1 D1) (hn:n1<=w.heap.size) (S':GSt s w' m b2 sb v' E' L' D') (F:Frm w w' (λk=>k=b2\/Foot sb v k)) (f:Fresh v v' w.heap.size):Two9 s n1 w' m b2 sb v' E' L' D' cb mb b db vd E1 L1 D1:=by
 have n {k:Nat} (h:Apt b2 sb v k):¬ (k=b2\/Foot sb v k):=λe=>by
  rcases e with e | e
  ·exact h.1 e
  ·exact h.2 e
 refine ⟨S',B.C.keep F (n B.A.ac) (n B.A.am) (n B.A.ab) (n B.A.ad) (λg hg=>n (B.A.ao g hg)),B.I,?_⟩;refine ⟨B.A.ac.step f B.C.box.lt,B.A.am.step f B.C.mesh.lt,B.A.ab.step f B.C.map.lt,B.A.ad.step f B.C.doc.box.lt,λg hg=>(B.A.ao g hg).step f (B.C.doc.row.lt g hg).2,B.A.nb,B.A.nd,B.A.lo.1,λk h=>?_,B.A.lo.2.2⟩;rcases h with h | h
 ·exact B.A.lo.2.1 k (.inl h)
 ·rcases f k h with h | h
  ·exact B.A.lo.2.1 k (.inr h)
  ·exact JQ hn h
theorem Two9.doc (B:Two9 s n1 w m b2 sb v E L D cb mb b db vd E1 L1 D1) (C':CdtAt w' cb mb b db vd' s s E1' D1') (I':CInvW s s E1' L1' D1') (F:Frm w w' (λk=>k=b\/k=db)) (f:∀ g,vd'.ownBlock=some g->vd.ownBlock=some g\/w.heap.size<=g):Two9 s n1 w' m b2 sb v E L D cb mb b db vd' E1' L1' D1':=by
 have nF:∀ k,Foot sb v k->¬ (k=b\/k=db):=λk h e=>by
  rcases e with rfl | rfl
  ·exact B.A.ab.2 h
  ·exact B.A.ad.2 h
 refine ⟨⟨F.box B.S.box (λe=>?_),Yt B.S.map F (λe=>?_),B.S.set.keep F (nF _ (.inl rfl)) (λg hg=>nF _ (.inr hg)),B.S.inv,B.S.ms⟩,C',I',B.A.ac,B.A.am,B.A.ab,B.A.ad,λg hg=>?_,B.A.nb,B.A.nd,B.A.lo⟩
 ·rcases e with e | e
  ·exact B.A.nb e
  ·exact B.A.nd e
 ·rcases e with e | e
  ·exact B.A.ab.1 e.symm
  ·exact B.A.ad.1 e.symm
 ·rcases f g hg with h | h
  ·exact B.A.ao g h
  ·exact B.S.apt h
end
theorem both_same {s:Int} {E E' E1':Es} {L L' L1 L1':List Tri3} {D D' D1':List Wl} {p:Pt} {r r':Int} (c:∀ q,someC L q↔someC L1 q) (i:CInvW s s E L D) (i1:CInvW s s E' L' D') (i2:CInvW s s E1' L1' D1') (t:GTold s L D p r L' D') (h1:AddRes s s L1 p r') (h2:∀ q,someC L1' q↔someC L1 q\/(q=p/\inBox s s p)) (h3:r'=0->AddD D p D1') (h4:r'≠0->D1'=D):r'=r/\D1'=D'/\∀ q,someC L' q↔someC L1' q:=by
 obtain ⟨t1,t2,_,_,t3,t4⟩:=t;have e:=addRes_same c t1 h1;subst e;refine ⟨rfl,?_,λq=>by rw [t2,h2,c]⟩;by_cases h0:r=0
 ·exact (addD_same i.wal.ris i.wal.apart i.wal.good (t3 h0).1 (h3 h0) i1.wal.ris i2.wal.ris).symm
 ·exact (h4 h0).trans (t4 h0).2.symm
theorem KJ {k:Nat} (h:k<=100000):wrap64 ((k:Int)+1)=((k+1:Nat):Int):=by rw [w64];omega
theorem KK {k m:Nat} (h:k < m) (e:wrap64 ((k:Int)+1)=((k+1:Nat):Int)):m - (intOf (.int .i64 (wrap64 ((k:Int)+1)))).toNat < m - (intOf (.int .i64 (k:Int))).toNat:=by
 rw [e];simp [intOf];omega
theorem tb (W w':World) (h:∃ p:Regrown,w'=grow (redrawn W p.d) p.os):Below W W w':=by
 obtain ⟨p,rfl⟩:=h;exact below_regrown _ _ _
theorem on_of (W:World):∀ x y,Ext x y->(∃ p:Regrown,x=grow (redrawn W p.d) p.os)->(∃ p:Regrown,y=grow (redrawn W p.d) p.os):=λx _ h1 h2=>regrown_of_below ((tb W x h2).trans (h1.mono (tb W x h2).size))
end
end Go.Proofs.YtmpfadapbbjbkaaGreat
