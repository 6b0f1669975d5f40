import Derived.Test.YtmpfadapbbjbkaaGreatPgt9
set_option maxRecDepth 100000
set_option maxHeartbeats 8000000
set_option linter.all false
namespace Go.Proofs.YtmpfadapbbjbkaaGreat
open _root_.Go.Proofs.Tryz
section
open Go.RowKit Go.Sort
attribute [local go_sem] rOper rAt rUpon cell_set sg_i64 sg_u64 alloc_cell alloc_frozen
attribute [local go_sem 10000] pt_eql pt_neq tri_eql
attribute [local irreducible] rWalk
theorem KU {D D':List Wl} {p:Pt} (h:AddD D p D'):∀ x∈D',x∈D\/∃ X∈D,x.K=X.K/\onD p X=true/\((x.A=X.A/\x.B=p)\/(x.A=p/\x.B=X.B)):=by
 rcases h with ⟨_,rfl⟩ | ⟨X,r,D1,k1,k2,hf,hR,_,_,rfl⟩
 ·exact λx hx=>.inl hx
 ·have hXm:=Jr hf;have ho:=VC hf;have hD1:∀ y∈D1,y∈D:=by
   rcases hR with ⟨_,e,_⟩ | ⟨_,k,hk,_,e⟩
   ·rw [e];exact λy hy=>hy
   ·rw [e];exact λy hy=>uc.mem hy
  intro x hx;rcases Km.1 ((yk _ _ _).mem_iff.1 hx) with rfl | hx
  ·exact .inr ⟨X,hXm,rfl,ho,.inr ⟨rfl,rfl⟩⟩
  ·rcases Km.1 ((yk _ _ _).mem_iff.1 hx) with rfl | hx
   ·exact .inr ⟨X,hXm,rfl,ho,.inl ⟨rfl,rfl⟩⟩
   ·exact .inl (hD1 x hx)
theorem KT {W H:Int} {D D':List Wl} {p:Pt} (h:AddD D p D') (hr:∀ x∈D,x.K=2->onRim W H x.A x.B):∀ x∈D',x.K=2->onRim W H x.A x.B:=by
 intro x hx hk;rcases KU h x hx with h | ⟨X,hX,e,ho,hh⟩
 ·exact hr x h hk
 ·have k:=hr X hX (by rw [<-e];exact hk);unfold onD onR btw at ho;simp only [Ko,Kn] at ho;obtain ⟨_,_,_,_,_,_,b1,b2⟩:=ho;unfold onRim at *;rcases hh with ⟨e1,e2⟩ | ⟨e1,e2⟩ <;> rw [e1,e2] <;> omega
theorem Xg {D D':List Wl} {p:Pt} (h:AddD D p D'):∀ x∈D',∃ y∈D,x.K=y.K:=λx hx=>by
 rcases KU h x hx with h | ⟨X,hX,e,_⟩
 ·exact ⟨x,h,rfl⟩
 ·exact ⟨X,hX,e⟩
structure CInvW (W H:Int) (E:Es) (L:List Tri3) (D:List Wl):Prop where
 good:Good E L
 fix:Fixed W H (wll D) L
 kinds:∀ x∈D,0<=x.K/\x.K<=2
 wal:WInv L D
 rim:∀ x∈D,x.K=2->onRim W H x.A x.B
def CAddPostW (cb mb b db:Nat) (W H:Int) (L:List Tri3) (D:List Wl) (p:Pt) (w:World) (e:Ending) (w':World):Prop:=
 ∃ r v' E' L' D',e=.returned (.int .i64 r)/\CdtAt w' cb mb b db v' W H E' D'/\CInvW W H E' L' D'/\AddRes W H L p r/\(∀ q,someC L' q↔someC L q\/(q=p/\inBox W H p))/\L'.length<=L.length+2/\D'.length<=D.length+2/\(∀ x∈D',∃ y∈D,x.K=y.K)/\Frm w w' (λk=>k=b\/k=db)
def CAddPostA (cb mb b db:Nat) (v:Value) (W H:Int) (L:List Tri3) (D:List Wl) (p:Pt) (w:World) (e:Ending) (w':World):Prop:=
 ∃ r v' E' L' D',e=.returned (.int .i64 r)/\CdtAt w' cb mb b db v' W H E' D'/\CInvW W H E' L' D'/\AddRes W H L p r/\(∀ q,someC L' q↔someC L q\/(q=p/\inBox W H p))/\L'.length<=L.length+2/\D'.length<=D.length+2/\(∀ x∈D',∃ y∈D,x.K=y.K)/\(r=0->AddD D p D')/\(r≠0->D'=D)/\Frm w w' (λk=>k=b\/k=db)/\(∀ g,v'.ownBlock=some g->v.ownBlock=some g\/w.heap.size<=g)
theorem uy (cb mb b db:Nat) (v:Value) (W H:Int) (hW0:0 < W) (hH0:0 < H) (hW:W < 16777216) (hH:H < 16777216) (E:Es) (L:List Tri3) (D:List Wl) (hI:CInvW W H E L D) (hL:L.length<=20000) (hD:D.length<=20000) (p:Pt) (w:World) (S:CdtAt w cb mb b db v W H E D):Calls prog 13 #[pt0 cb,p] w (CAddPostA cb mb b db v W H L D p w):=by
 have hE:E.length<=1000000:=by rw [hI.good.len];omega
 by_cases hb0:inBox W H p
 ·by_cases hc0:someC L p
  ·have ca:=λw0 B1 H1=>raddP_have mb b db E p hE w0 B1 H1 (Xb hW hH hI.good hI.fix.tiles hW0 hH0 hb0) (λe=>(hI.good.star_nil p).1 e hc0);have HR:=hdd (show AddRes W H L p 5 from .inr (.inl ⟨rfl,hb0,hc0⟩));have HS:=hdd (show ∀ q,someC L q↔someC L q\/(q=p/\inBox W H p) from λq=>⟨.inl,λk=>by rcases k with k | ⟨rfl,_⟩;exact k;exact hc0⟩);clear hb0 hc0 hE
   go_enter func13,ntmps13
   go_wp2_with fail;refine zG λw1 hW=>?_;have Bp:Box w1 w [p.x,p.y] 26:=by rw [hW];exact Box.new rfl
   have hw:Below w w w1:=by rw [hW];go_grown
   clear hW;have S1:=S.ee hw;have g1:=Bp.cells;have g2:=S1.box.cells;refine rgn 9 (λw2 hb=>?_);clear g1 g2;have hw2:=(upB hw hb);clear hb Bp S1 hw;go_wp2_with fail;refine (ca _ (S.mesh.ee hw2) (S.map.ee hw2)).mono ?_;rintro e w3 ⟨rfl,hb⟩;have hw3:=(upB hw2 hb);clear hb ca hw2;go_wp2
   go_ret
   exact ⟨5,v,E,L,D,rfl,S.ee hw3,hI,HR.o,HS.o,by omega,by omega,λx hx=>⟨x,hx,rfl⟩,λe=>by omega,λ_=>rfl,Frm.of_below hw3,λg h=>.inl h⟩
  ·obtain ⟨hv,hu,hlen,L1,g1',t1',s1',n1'⟩:=add_good hW hH hI.good hI.fix.tiles hW0 hH0 hb0 hc0;have ca:=λw0 B1 H1 D1=>raddP_ok mb b db E p v D hE (by omega) (λT hT=>ye (hv T hT)) (λT hT U hU=>ye (hu T hT U hU)) (Xb hW hH hI.good hI.fix.tiles hW0 hH0 hb0) ((hI.good.star_nil p).2 hc0) w0 B1 H1 D1 (by omega) hI.kinds;have HR:=hdd (show AddRes W H L p 0 from .inr (.inr ⟨rfl,hb0,hc0⟩));have HS:=hdd (show ∀ q,someC L1 q↔someC L q\/(q=p/\inBox W H p) from λq=>by rw [s1' q];simp [hb0]);have HL1:=hdd (show L1.length<=L.length+2 by rcases n1' with ⟨k,_⟩ | ⟨k,_⟩ <;> omega);have HWA:=hdd (show ∀ D1,AddD D p D1->WInv L1 D1 from λD1 hA=>tj hW0 hH0 hW hH hI.good hI.fix.tiles hI.wal hb0 hc0 hA g1' t1');have cr:=λa0 c n D1 w0 B1 H1 R1=>ka mb b db a0 c n (addPE E p) L1 D1 W H hW hH (by have:=HL1.o;omega) g1' t1' w0 B1 H1 R1
   change ∀ (w0:World) B1 H1 D1,Calls _ _ _ _ (AddPost b db E p v D w0) at ca
   clear hb0 hc0 hE hv hu hlen g1' t1' s1' n1'
   go_enter func13,ntmps13
   go_wp2_with fail;refine zG λw1 hW'=>?_;have Bp:Box w1 w [p.x,p.y] 26:=by rw [hW'];exact Box.new rfl
   have hw:Below w w w1:=by rw [hW'];go_grown
   clear hW';have S1:=S.ee hw;have g1:=Bp.cells;have g2:=S1.box.cells;refine rgn 9 (λw2 hb=>?_);clear g1 g2;have hw2:=(upB hw hb);clear hb Bp S1 hw;go_wp2_with fail;have S2:=S.ee hw2;refine (ca _ S2.mesh S2.map S2.doc).mono ?_;rintro e w3 ⟨v1,D1,rfl,H3,D3,hA,f3,hg3⟩;have HG3:=hdd (show ∀ g,v1.ownBlock=some g->v.ownBlock=some g\/w.heap.size<=g from λg e=>(hg3 g e).imp id (JQ hw2.size));clear hg3;have nb:∀ {x:Nat} {cs:List Value} {T:TypeId},Box w2 x cs T->x≠b:=λh=>h.ne_map S2.map;have S3:CdtAt w3 cb mb b db v1 W H (addPE E p) D1:=⟨f3.box S2.box (λk=>by rcases k with k | k;exact nb S2.box k;exact S.cdb k),f3.box S2.mesh (λk=>by rcases k with k | k;exact nb S2.mesh k;exact S.mdb k),H3,D3,S.cdb,S.mdb⟩;have F3:Frm w w3 (λk=>k=b\/k=db):=(Frm.of_below hw2).trans f3;have hk:=YI hA hI.kinds;have HK:=hdd hk;have HWD:=hdd (HWA.o D1 hA);have HRD:=hdd (show (∀ x∈D1,x.K=2->onRim W H x.A x.B)/\(∀ x∈D1,∃ y∈D,x.K=y.K)/\AddD D p D1 from ⟨KT hA hI.rim,Xg hA,hA⟩);clear HWA;clear nb ca H3 D3 hA f3 S2 hw2 hk;generalize addPE E p=E1 at *
   have g2:=S3.box.cells;go_wp2_with fail;refine rgn 8 (λw4 hb=>?_);clear g2;have S4:=S3.ee hb;have F4:=F3.trans (Frm.of_below hb);clear hb S3 F3;obtain ⟨a9,c9,hv9,Dr,_⟩:=S4.doc.rd;have cr4:=cr a9 c9 D1.length D1 w4 S4.mesh S4.map Dr;clear cr hv9 Dr;go_wp2_with fail;refine cr4.mono ?_;rintro e w5 ⟨rfl,E2,L2,g5,H5,r5,f5⟩;have S5:CdtAt w5 cb mb b db v1 W H E2 D1:=⟨S4.box.turn S4.map g5,S4.mesh.turn S4.map g5,H5,S4.doc.turn S4.map g5,S.cdb,S.mdb⟩;have F5:=F4.trans2 (Frm.of_grown g5 (p:=λk=>k=b) (λg e=>by cases e;rfl)) (λk hk _=>.inl hk);have HI5:=hdd (show CInvW W H E2 L2 D1 from ⟨r5.good,f5,HK.o.1,HWD.o.kept r5.kept,HRD.o.1⟩);have HS5:=hdd (show ∀ q,someC L2 q↔someC L q\/(q=p/\inBox W H p) from λq=>(r5.kept.cnr q).trans (HS.o q));have HL5:=hdd (show L2.length<=L.length+2 by rw [r5.kept.len];exact HL1.o);clear cr4 g5 H5 r5 f5 S4 F4;go_wp2
   go_ret
   exact ⟨0,v1,E2,L2,D1,rfl,S5,HI5.o,HR.o,HS5.o,HL5.o,HK.o.2,HRD.o.2.1,λ_=>HRD.o.2.2,λk=>absurd rfl k,F5,HG3.o⟩
 ·have ca:=λw0 B1 H1=>raddP_none mb b db E p hE w0 B1 H1 (KR hI.good hI.fix.tiles hb0);have HR:=hdd (show AddRes W H L p 1 from .inl ⟨rfl,hb0⟩);have HS:=hdd (show ∀ q,someC L q↔someC L q\/(q=p/\inBox W H p) from λq=>⟨.inl,λk=>by rcases k with k | ⟨_,k⟩;exact k;exact absurd k hb0⟩);clear hb0 hE
  go_enter func13,ntmps13
  go_wp2_with fail;refine zG λw1 hW=>?_;have Bp:Box w1 w [p.x,p.y] 26:=by rw [hW];exact Box.new rfl
  have hw:Below w w w1:=by rw [hW];go_grown
  clear hW;have S1:=S.ee hw;have g1:=Bp.cells;have g2:=S1.box.cells;refine rgn 9 (λw2 hb=>?_);clear g1 g2;have hw2:=(upB hw hb);clear hb Bp S1 hw;go_wp2_with fail;refine (ca _ (S.mesh.ee hw2) (S.map.ee hw2)).mono ?_;rintro e w3 ⟨rfl,hb⟩;have hw3:=(upB hw2 hb);clear hb ca hw2;go_wp2
  go_ret
  exact ⟨1,v,E,L,D,rfl,S.ee hw3,hI,HR.o,HS.o,by omega,by omega,λx hx=>⟨x,hx,rfl⟩,λe=>by omega,λ_=>rfl,Frm.of_below hw3,λg h=>.inl h⟩
theorem rcaddX_any (cb mb b db:Nat) (v:Value) (W H:Int) (hW0:0 < W) (hH0:0 < H) (hW:W < 16777216) (hH:H < 16777216) (E:Es) (L:List Tri3) (D:List Wl) (hI:CInvW W H E L D) (hL:L.length<=20000) (hD:D.length<=20000) (p:Pt) (w:World) (S:CdtAt w cb mb b db v W H E D):Calls prog 13 #[pt0 cb,p] w (CAddPostW cb mb b db W H L D p w):=
 (uy cb mb b db v W H hW0 hH0 hW hH E L D hI hL hD p w S).mono λ_ _ ⟨r,v',E',L',D',h1,h2,h3,h4,h5,h6,h7,h8,_,_,h9,_⟩=>⟨r,v',E',L',D',h1,h2,h3,h4,h5,h6,h7,h8,h9⟩
theorem calm_no {D:List Wl} {a b:Pt} (h:clashD D a b=0):∀ z∈D,meetS a b z.A z.B=0:=by
 unfold clashD at h;split at h
 ·split at h
  ·split at h
   ·cases h
   ·rename_i hn
    intro z hz;have:=List.any_eq_false.1 (by simpa using hn:D.any (hitD a b)=false) z hz;unfold hitD at this;rw [vN]
    simpa using this
  ·cases h
 ·cases h
theorem K9 (x y a b:Pt):meetS (lo2 x y) (hi2 x y) a b=meetS x y a b:=by rw [jW,meet_lo]
theorem mkOk_of {x y:Pt} {k:Int} (hk:k=1\/k=2) (h:x≠y) (vx:vld x=true) (vy:vld y=true):mkOk x y k=true:=by
 unfold mkOk mkK;rcases hk with rfl | rfl <;> simp [h,vx,vy]
theorem Xe {W H : Int} (hW0 : 0 < W) (hH0 : 0 < H) (hW : W < 16777216) (hH : H < 16777216) {k : Int} (hk : k = 1 \/ k = 2) : ∀ (M : List Pt) {E E2 : Es} {D D2 : List Wl} {L : List Tri3}, Good E L -> Tiles W H L -> L.length <= 94 -> WInv L D -> (∀ x ∈ M, someC L x) -> (M.Pairwise (λx y => cmpP x y < 0) \/ M.Pairwise (λx y => cmpP y x < 0)) -> (∀ (i : Nat) (h : i + 1 < M.length), Bare L M[i] M[i + 1]) -> (∀ (i : Nat) (h : i + 1 < M.length), ∀ z ∈ D, meetS M[i] M[i + 1] z.A z.B = 0) -> addsW k M E D E2 D2 ->
    ∃ L2,Good E2 L2/\Tiles W H L2/\WInv L2 D2/\L2.length=L.length/\∀ q,someC L2 q↔someC L q
 | [],E,E2,D,D2,L,g,t,_,hI,_,_,_,_,h=>by obtain ⟨rfl,rfl⟩:=h;exact ⟨L,g,t,hI,rfl,λ_=>UC⟩
 | [_],E,E2,D,D2,L,g,t,_,hI,_,_,_,_,h=>by obtain ⟨rfl,rfl⟩:=h;exact ⟨L,g,t,hI,rfl,λ_=>UC⟩
 | x :: y :: M,E,E2,D,D2,L,g,t,hn,hI,hc,hm,hb,hno,h=>by
  have vb:∀ q,inBox W H q->vld q=true:=λq hq=>by rw [zj];unfold inBox at hq;omega
  have vc:∀ q,someC L q->vld q=true:=λq ⟨T,hT,hcn⟩=>by
   obtain ⟨b,c,hk⟩:=qo hcn;exact vb _ (t.cyc_box hT hk)
  obtain ⟨Q0,j,hQ,hj,h⟩:=h;have vx:=vc x (hc x (by simp));have vy:=vc y (hc y (by simp));have hxy:x≠y:=by
   rintro rfl;rcases hm with hm | hm
   ·have:=(Jt.1 hm).1 x (by simp);rw [zY.2 rfl] at this;omega
   ·have:=(Jt.1 hm).1 x (by simp);rw [zY.2 rfl] at this;omega
  have hB:Bare L x y:=hb 0 (by simp);have h0:∀ z∈D,meetS x y z.A z.B=0:=hno 0 (by simp);obtain ⟨L',g',_,he⟩:=force_edge hW0 hH0 hW hH hxy g t hn hB (hc x (by simp)) (hc y (by simp)) hQ;obtain ⟨L1,g1,t1,k1⟩:=yq hW hH capN (a:=x) (b:=y) (Q:=Q0) g t (λz hz=>(qS (hQ.mem_iff.1 hz)).2.2.1);have he1:edgeL L1 x y:=edgeL.perm he (jH g' g1);have hmk:=mkOk_of hk hxy vx vy;have eZ:mkW x y k=⟨lo2 x y,hi2 x y,k⟩:=by unfold mkW;rw [J1 hmk]
  have gZ:=X6 hmk;have hlh:(lo2 x y=x/\hi2 x y=y)\/(lo2 x y=y/\hi2 x y=x):=by
   unfold lo2 hi2;split
   ·exact .inr ⟨rfl,rfl⟩
   ·exact .inl ⟨rfl,rfl⟩
  have hZe:edgeL L1 (lo2 x y) (hi2 x y):=by
   rcases hlh with ⟨e1,e2⟩ | ⟨e1,e2⟩ <;> rw [e1,e2]
   ·exact he1
   ·exact he1.turn
  have q:=yk D (mkW x y k) j;have hI1:WInv L1 (insW D (mkW x y k) j):=by
   refine ⟨λz hz=>?_,jS hI.ris hj (λz hz e=>?_),?_,λz hz=>?_⟩
   ·rcases Km.1 (q.mem_iff.1 hz) with e | hz
    ·rw [e,eZ];exact gZ
    ·exact hI.good z hz
   ·have k2:=h0 z hz;rw [e,eZ,<-K9] at k2;exact xX gZ k2
   ·refine qV q.symm (Jt.2 ⟨λz hz=>?_,hI.apart⟩);rw [eZ];show meetS (lo2 x y) (hi2 x y) z.A z.B=0;rw [K9];exact h0 z hz
   ·rcases Km.1 (q.mem_iff.1 hz) with e | hz
    ·rw [e,eZ];exact hZe
    ·rcases hI.edge z hz with e | e
     ·exact .inl (k1.wall _ _ (by show ¬ meetR x y z.A z.B=1;rw [<-vN,h0 z hz];decide) e)
     ·exact .inr (k1.wall _ _ (by show ¬ meetR x y z.B z.A=1;rw [<-vN,Yp,h0 z hz];decide) e)
  have hm2:(y :: M).Pairwise (λx y=>cmpP x y < 0)\/(y :: M).Pairwise (λx y=>cmpP y x < 0):=hm.imp (λh=>(Jt.1 h).2) (λh=>(Jt.1 h).2);have hno2:∀ (i:Nat) (h:i+1 < (y :: M).length),∀ z∈insW D (mkW x y k) j,meetS (y :: M)[i] (y :: M)[i+1] z.A z.B=0:=by
   intro i hi z hz;rcases Km.1 (q.mem_iff.1 hz) with e | hz
   ·rw [e,eZ];have m1:(y :: M)[i]∈y :: M:=JP _;have m2:(y :: M)[i+1]∈y :: M:=JP _;have va:=vc _ (hc _ (JK _ m1));have vb2:=vc _ (hc _ (JK _ m2));rcases hm with hm | hm
    ·obtain ⟨n1,n2⟩:=Jt.1 hm;have lt:=(JY.1 n2) i (i+1) (by omega) hi (by omega);have le:cmpP y (y :: M)[i]<=0:=by
      rcases Vb i with e | e
      ·subst e;show cmpP y y<=0;rw [zY.2 rfl];omega
      ·have:=(JY.1 n2) 0 i (by simp) (by omega) e;exact JT this
     have hl:¬ cmpP y x < 0:=by have:=n1 y (by simp);have:=zu x y;omega
     have e1:hi2 x y=y:=by unfold hi2;rw [Kl hl]
     have:=Zo (y:=⟨lo2 x y,hi2 x y,k⟩) (z:=⟨(y :: M)[i],(y :: M)[i+1],1⟩) gZ ⟨va,vb2,lt,.inl rfl⟩ (by show cmpP (hi2 x y) _<=0;rw [e1];exact le);rw [jW];exact this
    ·obtain ⟨n1,n2⟩:=Jt.1 hm;have lt:=(JY.1 n2) i (i+1) (by omega) hi (by omega);have le:cmpP (y :: M)[i] y<=0:=by
      rcases Vb i with e | e
      ·subst e;show cmpP y y<=0;rw [zY.2 rfl];omega
      ·have:=(JY.1 n2) 0 i (by simp) (by omega) e;exact JT this
     have hl:cmpP y x < 0:=n1 y (by simp);have e1:lo2 x y=y:=by unfold lo2;rw [J1 hl]
     have:=Zo (y:=⟨(y :: M)[i+1],(y :: M)[i],1⟩) (z:=⟨lo2 x y,hi2 x y,k⟩) ⟨vb2,va,lt,.inl rfl⟩ gZ (by show cmpP _ (lo2 x y)<=0;rw [e1];exact le);rw [<-Yq];exact this
   ·exact hno (i+1) (by simpa using hi) z hz
  obtain ⟨L2,g2,t2,i2,l2,c2⟩:=Xe hW0 hH0 hW hH hk (y :: M) g1 t1 (by rw [k1.len];exact hn) hI1 (λz hz=>(k1.cnr z).2 (hc z (JK _ hz))) hm2 (λi hi z hz=>hb (i+1) (by simpa using hi) z ((k1.cnr z).1 hz)) hno2 h;exact ⟨L2,g2,t2,i2,l2.trans k1.len,λz=>(c2 z).trans (k1.cnr z)⟩
theorem onE_mem {E:Es} {L:List Tri3} (g:Good E L) {p q z:Pt}:z∈onE E p q↔someC L z/\onR z p q=true:=by
 unfold onE froms;rw [JS,JN];refine and_congr_left λ_=>⟨?_,?_⟩
 ·rintro ⟨⟨w,T⟩,he,rfl⟩;obtain ⟨hT,hw⟩:=ku.1 (g.perm.mem_iff.1 he);obtain ⟨c,hc⟩:=yZ (a:=w.1) (b:=w.2) hw;exact ⟨T,hT,hc.cnr⟩
 ·rintro ⟨T,hT,hcn⟩;obtain ⟨b,c,hc⟩:=qo hcn;exact ⟨((z,b),T),g.perm.mem_iff.2 (ku.2 ⟨hT,hc.way⟩),rfl⟩
theorem addw_inv {W H:Int} (hW0:0 < W) (hH0:0 < H) (hW:W < 16777216) (hH:H < 16777216) {E E2:Es} {D D2:List Wl} {L:List Tri3} {p q:Pt} {k:Int} (g:Good E L) (t:Tiles W H L) (hn:L.length<=94) (hI:WInv L D) (hA:AddWR E D p q k 0 E2 D2):∃ L2,Good E2 L2/\Tiles W H L2/\WInv L2 D2/\L2.length=L.length/\∀ q,someC L2 q↔someC L q:=by
 have vb:∀ q,inBox W H q->vld q=true:=λq hq=>by rw [zj];unfold inBox at hq;omega
 have vc:∀ q,someC L q->vld q=true:=λq ⟨T,hT,hcn⟩=>by
  obtain ⟨b,c,hk⟩:=qo hcn;exact vb _ (t.cyc_box hT hk)
 rcases hA with ⟨h,_⟩ | ⟨_,hk,hpq,vp,vq,s1,s2,M,⟨hM,hord⟩,hcalm,ha⟩
 ·exact absurd rfl h
 have mono:M.Pairwise (λx y=>cmpP x y < 0)\/M.Pairwise (λx y=>cmpP y x < 0):=by
  rcases hord with ⟨h,_⟩ | ⟨h,_⟩
  ·exact .inl h
  ·exact .inr (List.pairwise_reverse.1 h)
 have inM:∀ z,z∈M↔someC L z/\onR z p q=true:=λz=>(hM z).trans (onE_mem g);refine Xe hW0 hH0 hW hH hk M g t hn hI (λx hx=>((inM x).1 hx).1) mono ?_ (λi hi=>calm_no (hcalm i hi)) ha;intro i hi z hz hd hx hy;have ma:M[i]∈M:=JP _;have mb:M[i+1]∈M:=JP _;obtain ⟨ca,oa⟩:=(inM _).1 ma;obtain ⟨cb,ob⟩:=(inM _).1 mb;have lt2:cmpP M[i] M[i+1] < 0\/cmpP M[i+1] M[i] < 0:=mono.imp (λh=>(JY.1 h) i (i+1) (by omega) hi (by omega)) (λh=>(JY.1 h) i (i+1) (by omega) hi (by omega));have hzab:onR z M[i] M[i+1]=true:=by
  unfold onR btw;simp only [Ko,Kn];exact ⟨vc z hz,vc _ ca,vc _ cb,hd,by omega,by omega⟩
 have hzS:onS z M[i] M[i+1]=true:=by rw [on_eq];exact hzab
 have hne:M[i]≠M[i+1]:=λe=>by rw [e,zY.2 rfl] at lt2;omega
 have hzM:z∈M:=by
  refine (inM z).2 ⟨hz,?_⟩;have oa':=oa;have ob':=ob;unfold onR btw at oa' ob' ⊢;simp only [Ko,Kn] at oa' ob' ⊢;obtain ⟨_,_,_,a1,a2,a3⟩:=oa';obtain ⟨_,_,_,b1,b2,b3⟩:=ob';have f1:=ud p q M[i];have f2:=ud p q M[i+1];have f3:=ud p q z;have on:=λm=>on_ff (-(q.y - p.y)) (q.x - p.x) hne hzS (m:=m);have u1:=(on (ff (-(q.y - p.y)) (q.x - p.x) p+1)).1 (by omega) (by omega);have u2:=(on (ff (-(q.y - p.y)) (q.x - p.x) p)).2 (by omega) (by omega);exact ⟨vc z hz,vp,vq,by omega,by omega,by omega⟩
 obtain ⟨j,hj,ej⟩:=QU.1 hzM;refine QD λhno=>?_;have n1:z≠M[i]:=λe=>hno (.inl e);have n2:z≠M[i+1]:=λe=>hno (.inr e);have nj:j≠i/\j≠i+1:=⟨λe=>by subst e;exact n1 ej.symm,λe=>by subst e;exact n2 ej.symm⟩;rcases mono with h | h
 ·have hp:=JY.1 h;have lt:=hp i (i+1) (by omega) hi (by omega);obtain ⟨c1,c2⟩:=jU (X:=⟨M[i],M[i+1],1⟩) ⟨vc _ ca,vc _ cb,lt,.inl rfl⟩ hzab n1 n2;simp only at c1 c2;rcases QS j i with k | k
  ·have:=hp j i hj (by omega) k;rw [ej] at this;have:=zu z M[i];omega
  ·have:=hp (i+1) j hi hj (by omega);rw [ej] at this;have:=zu z M[i+1];omega
 ·have hp:=JY.1 h;have lt:=hp i (i+1) (by omega) hi (by omega);have hzba:onR z M[i+1] M[i]=true:=by rw [<-on_eq,vL,on_eq];exact hzab
  obtain ⟨c1,c2⟩:=jU (X:=⟨M[i+1],M[i],1⟩) ⟨vc _ cb,vc _ ca,lt,.inl rfl⟩ hzba n2 n1;simp only at c1 c2;rcases QS j i with k | k
  ·have:=hp j i hj (by omega) k;rw [ej] at this;have:=zu z M[i];omega
  ·have:=hp (i+1) j hi hj (by omega);rw [ej] at this;have:=zu z M[i+1];omega
theorem Xd {W H:Int} {k:Int} (hk:k=1):∀ (M:List Pt) {E E2:Es} {D D2:List Wl},(∀ x∈D,x.K=2->onRim W H x.A x.B)->addsW k M E D E2 D2->∀ x∈D2,x.K=2->onRim W H x.A x.B
 | [],E,E2,D,D2,hD,h=>by obtain ⟨rfl,rfl⟩:=h;exact hD
 | [_],E,E2,D,D2,hD,h=>by obtain ⟨rfl,rfl⟩:=h;exact hD
 | x :: y :: M,E,E2,D,D2,hD,h=>by
  obtain ⟨Q0,j,_,_,h⟩:=h;refine Xd hk (y :: M) (λz hz hz2=>?_) h;rcases Km.1 ((yk _ _ _).mem_iff.1 hz) with rfl | hz
  ·exfalso
   unfold mkW at hz2;split at hz2
   ·rw [hk] at hz2;cases hz2
   ·cases hz2
  ·exact hD z hz hz2
theorem addw_rim {W H:Int} {E E2:Es} {D D2:List Wl} {p q:Pt} {r:Int} (hD:∀ x∈D,x.K=2->onRim W H x.A x.B) (h:AddWR E D p q 1 r E2 D2):∀ x∈D2,x.K=2->onRim W H x.A x.B:=by
 rcases h with ⟨_,_,rfl⟩ | ⟨_,_,_,_,_,_,_,M,_,_,h⟩
 ·exact hD
 ·exact Xd rfl M hD h
def CAddWPostW (cb mb b db:Nat) (W H:Int) (E:Es) (L:List Tri3) (D:List Wl) (p q:Pt) (w:World) (e:Ending) (w':World):Prop:=
 ∃ r v' E1 E' L' D',e=.returned (.int .i64 r)/\CdtAt w' cb mb b db v' W H E' D'/\CInvW W H E' L' D'/\AddWR E D p q 1 r E1 D'/\(r≠0->E'=E)/\(r=0->∃ L1,Good E1 L1/\Tiles W H L1/\Kept (wll D') L1 L')/\(∀ x,someC L' x↔someC L x)/\L'.length=L.length/\D'.length<=D.length+3 * L.length/\Frm w w' (λk=>k=b\/k=db)
theorem rcaddwX_any (cb mb b db:Nat) (v:Value) (W H:Int) (hW0:0 < W) (hH0:0 < H) (hW:W < 16777216) (hH:H < 16777216) (E:Es) (L:List Tri3) (D:List Wl) (hI:CInvW W H E L D) (hL:L.length<=94) (hD:D.length<=20000) (p q:Pt) (w:World) (S:CdtAt w cb mb b db v W H E D):Calls prog 37 #[pt0 cb,p,q,.int .i64 1] w (CAddWPostW cb mb b db W H E L D p q w):=by
 have hE:E.length<=90000:=by rw [hI.good.len];omega
 have ca:=λw0 B1 H1 D1=>raddw_any mb b db E L hE hI.good v D (by omega) hI.kinds p q w0 B1 H1 D1 S.mdb
 change ∀ (w0:World) B1 H1 D1,Calls _ _ _ _ (AddWPost b db E D p q 1 w0) at ca
 have HI:=hdd hI;have HL:=hdd hL;clear hI hE hL hD
 go_enter func37,ntmps37
 go_wp2_with fail;refine zG λw1 hW'=>?_;have Bp:Box w1 w [p.x,p.y] 26:=by rw [hW'];exact (Box.new rfl).old _
 have Bq:Box w1 (w+1) [q.x,q.y] 26:=by rw [hW'];exact Box.new (by simp)
 have hw:Below w w w1:=by rw [hW'];go_grown
 clear hW';have S1:=S.ee hw;have g1:=Bp.cells;have g3:=Bq.cells;have g2:=S1.box.cells;refine rgn 11 (λw2 hb=>?_);clear g1 g2 g3;have hw2:=(upB hw hb);clear hb Bp Bq S1 hw;go_wp2_with fail;have S2:=S.ee hw2;refine (ca _ S2.mesh S2.map S2.doc).mono ?_;rintro e w3 ⟨r,E1,D1,v1,rfl,hR,H3,D3,f3⟩;have nb:∀ {x:Nat} {cs:List Value} {T:TypeId},Box w2 x cs T->x≠b:=λh=>h.ne_map S2.map;have S3:CdtAt w3 cb mb b db v1 W H E1 D1:=⟨f3.box S2.box (λk=>by rcases k with k | k;exact nb S2.box k;exact S.cdb k),f3.box S2.mesh (λk=>by rcases k with k | k;exact nb S2.mesh k;exact S.mdb k),H3,D3,S.cdb,S.mdb⟩;have F3:Frm w w3 (λk=>k=b\/k=db):=(Frm.of_below hw2).trans f3;have HR:=hdd hR;clear nb ca H3 D3 hR f3 S2 hw2;by_cases hr:r=0
 ·subst hr;have HWI:=hdd (addw_inv hW0 hH0 hW hH HI.o.good HI.o.fix.tiles HL.o HI.o.wal HR.o);obtain ⟨L1,g1',t1',l1,c1,d1,n1⟩:∃ L2,Good E1 L2/\Tiles W H L2/\L2.length=L.length/\(∀ q,someC L2 q↔someC L q)/\(∀ x∈D1,0<=x.K/\x.K<=2)/\D1.length<=D.length+3 * L.length:=by
   rcases HR.o with ⟨k,_⟩ | ⟨_,hk,_,vp,vq,s1,_,M,hM,_,ha⟩
   ·exact absurd rfl k
   ·obtain ⟨L2,x1,x2,x3,x4,x5,x6⟩:=te hW hH hk M HI.o.good HI.o.fix.tiles HI.o.kinds ha;have:=(Zc hM (onE_first s1 vp vq)).2;rw [HI.o.good.len] at this;exact ⟨L2,x1,x2,x3,x4,x5,by omega⟩
  have HK:=hdd (show Good E1 L1/\Tiles W H L1/\L1.length=L.length/\(∀ q,someC L1 q↔someC L q)/\(∀ x∈D1,0<=x.K/\x.K<=2)/\D1.length<=D.length+3 * L.length from ⟨g1',t1',l1,c1,d1,n1⟩);have HW1:=hdd (show WInv L1 D1 from by
   obtain ⟨L3,y1,_,y3,_⟩:=HWI.o;exact y3.perm (jH y1 g1'))
  clear HWI;have HRM:=hdd (addw_rim HI.o.rim HR.o);have cr:=λa0 c n w0 B1 H1 R1=>ka mb b db a0 c n E1 L1 D1 W H hW hH (by have:=HL.o;omega) g1' t1' w0 B1 H1 R1;clear g1' t1' l1 c1 d1 n1;have g2:=S3.box.cells;go_wp2_with fail;refine rgn 8 (λw4 hb=>?_);clear g2;have S4:=S3.ee hb;have F4:=F3.trans (Frm.of_below hb);clear hb S3 F3;obtain ⟨a4,c4,rfl,R4,_⟩:=S4.doc.rd;go_wp2_with fail;refine (cr a4 c4 D1.length _ S4.mesh S4.map R4).mono ?_;rintro e w5 ⟨rfl,E5,L5,hg5,H5,hS5,hF5⟩;have S5:CdtAt w5 cb mb b db (.slice a4 D1.length c4) W H E5 D1:=⟨S4.box.turn S4.map hg5,S4.mesh.turn S4.map hg5,H5,S4.doc.turn S4.map hg5,S4.cdb,S4.mdb⟩;have F5:Frm w w5 (λk=>k=b\/k=db):=F4.trans (Frm.of_grown hg5 (λg e=>.inl (JL e).symm));clear cr R4 hg5 H5 S4 F4;go_wp2
  go_ret
  obtain ⟨x1,x2,x3,x4,x5,x6⟩:=HK.o;exact ⟨0,_,E1,E5,L5,D1,rfl,S5,⟨hS5.good,hF5,x5,HW1.o.kept hS5.kept,HRM.o⟩,HR.o,λh=>absurd rfl h,λ_=>⟨L1,x1,x2,hS5.kept⟩,λy=>(hS5.kept.cnr y).trans (x4 y),hS5.kept.len.trans x3,x6,F5⟩
 ·have hr1:(r == 0)=false:=by simp;exact hr
  obtain ⟨rfl,rfl⟩:E1=E/\D1=D:=by
   rcases HR.o with ⟨_,k1,k2⟩ | ⟨k,_⟩
   ·exact ⟨k1,k2⟩
   ·exact absurd k hr
  have HR2:=hdd hr;clear hr;go_wp2;refine bodyPost_ret (v:=.int .i64 r) (by simp [results,results37,go_sem]) rfl ?_;exact ⟨r,v1,E1,E1,L,D1,rfl,S3,HI.o,HR.o,λ_=>rfl,λh=>absurd h HR2.o,λ_=>UC,rfl,by omega,F3⟩
theorem tn {W H:Int} (hW0:0 < W) (hH0:0 < H) (hW:W < 16777216) (hH:H < 16777216) (k:Nat):∃ a b,sqW W H k=⟨a,b,2⟩/\GoodW (sqW W H k)/\((a=sqP W H k/\b=sqP W H (k+1))\/(a=sqP W H (k+1)/\b=sqP W H k)):=by
 have vb:∀ q,inBox W H q->vld q=true:=λq hq=>by rw [zj];unfold inBox at hq;omega
 have bx:∀ j,inBox W H (sqP W H j):=λj=>by unfold sqP inBox;(repeat' split) <;> simp only <;> omega
 have ne:sqP W H k≠sqP W H (k+1):=λe=>by
  have:=Pt.eq_iff.1 e;unfold sqP at this;have h4:k % 4=0\/k % 4=1\/k % 4=2\/k % 4=3:=by omega
  rcases h4 with h | h | h | h
  ·have h2:(k+1) % 4=1:=by omega
   simp [h,h2] at this;omega
  ·have h2:(k+1) % 4=2:=by omega
   simp [h,h2] at this;omega
  ·have h2:(k+1) % 4=3:=by omega
   simp [h,h2] at this;omega
  ·have h2:(k+1) % 4=0:=by omega
   simp [h,h2] at this;omega
 have hm:mkOk (sqP W H k) (sqP W H (k+1)) 2=true:=by
  unfold mkOk mkK;simp [ne,vb _ (bx k),vb _ (bx (k+1))]
 have e:sqW W H k=⟨lo2 (sqP W H k) (sqP W H (k+1)),hi2 (sqP W H k) (sqP W H (k+1)),2⟩:=by unfold sqW mkW;rw [J1 hm]
 refine ⟨_,_,e,by rw [e];exact X6 hm,?_⟩;unfold lo2 hi2;split
 ·exact .inr ⟨rfl,rfl⟩
 ·exact .inl ⟨rfl,rfl⟩
theorem ZO {W H:Int} (hW0:0 < W) (hH0:0 < H) {i j:Nat} (hi:i < 4) (hj:j < 4) (hij:i≠j):¬ ((sqP W H i=sqP W H j/\sqP W H (i+1)=sqP W H (j+1))\/(sqP W H i=sqP W H (j+1)/\sqP W H (i+1)=sqP W H j)):=by
 have hi':i=0\/i=1\/i=2\/i=3:=by omega
 have hj':j=0\/j=1\/j=2\/j=3:=by omega
 rcases hi' with rfl | rfl | rfl | rfl <;> rcases hj' with rfl | rfl | rfl | rfl <;> first | exact absurd rfl hij | (simp [sqP,Pt.eq_iff];omega)
theorem sqW_rim {W H:Int} (hW0:0 < W) (hH0:0 < H) (hW:W < 16777216) (hH:H < 16777216) (k:Nat):onRim W H (sqW W H k).A (sqW W H k).B:=by
 obtain ⟨a,b,e,_,h⟩:=tn hW0 hH0 hW hH k;rw [e];have hr:onRim W H (sqP W H k) (sqP W H (k+1)):=by
  unfold sqP onRim;have h4:k % 4=0\/k % 4=1\/k % 4=2\/k % 4=3:=by omega
  rcases h4 with h | h | h | h
  ·have h2:(k+1) % 4=1:=by omega
   simp [h,h2]
  ·have h2:(k+1) % 4=2:=by omega
   simp [h,h2]
  ·have h2:(k+1) % 4=3:=by omega
   simp [h,h2]
  ·have h2:(k+1) % 4=0:=by omega
   simp [h,h2]
 rcases h with ⟨rfl,rfl⟩ | ⟨rfl,rfl⟩
 ·exact hr
 ·exact tD hr
theorem Xi {W H:Int} (hW0:0 < W) (hH0:0 < H) (hW:W < 16777216) (hH:H < 16777216) {k:Nat} (hk:k < 4) (x:Wl) (hx:x∈(List.range k).map (sqW W H)) (e:x=mkW (sqP W H k) (sqP W H (k+1)) 2):False:=by
 obtain ⟨i,hi,rfl⟩:=JN.1 hx;rw [Jz] at hi
 change sqW W H i=sqW W H k at e
 obtain ⟨a,b,e1,_,h1⟩:=tn hW0 hH0 hW hH i;obtain ⟨c,d,e2,_,h2⟩:=tn hW0 hH0 hW hH k;rw [e1,e2] at e;simp only [Wl.mk.injEq,Va] at e;obtain ⟨rfl,rfl⟩:=e;refine ZO hW0 hH0 (by omega:i < 4) hk (by omega) ?_;rcases h1 with ⟨p1,p2⟩ | ⟨p1,p2⟩ <;> rcases h2 with ⟨q1,q2⟩ | ⟨q1,q2⟩
 ·exact .inl ⟨p1.symm.trans q1,p2.symm.trans q2⟩
 ·exact .inr ⟨p1.symm.trans q1,p2.symm.trans q2⟩
 ·exact .inr ⟨p2.symm.trans q2,p1.symm.trans q1⟩
 ·exact .inl ⟨p2.symm.trans q2,p1.symm.trans q1⟩
theorem winv_square {W H:Int} (hW0:0 < W) (hH0:0 < H) (hW:W < 16777216) (hH:H < 16777216) {L:List Tri3} (t:Tiles W H L) (hE:edgeL L ⟨0,0⟩ ⟨W,0⟩/\edgeL L ⟨W,0⟩ ⟨W,H⟩/\edgeL L ⟨W,H⟩ ⟨0,H⟩/\edgeL L ⟨0,H⟩ ⟨0,0⟩) {D:List Wl} (hP:D.Perm ((List.range 4).map (sqW W H))) (hR:Ris D):WInv L D:=by
 have he:∀ i,i < 4->edgeL L (sqP W H i) (sqP W H (i+1)):=λi hi=>by
  have hi':i=0\/i=1\/i=2\/i=3:=by omega
  rcases hi' with rfl | rfl | rfl | rfl
  ·exact hE.1
  ·exact hE.2.1
  ·exact hE.2.2.1
  ·exact hE.2.2.2
 have hs:∀ i,i < 4->edgeL L (sqW W H i).A (sqW W H i).B:=λi hi=>by
  obtain ⟨a,b,e,_,h⟩:=tn hW0 hH0 hW hH i;rw [e];rcases h with ⟨rfl,rfl⟩ | ⟨rfl,rfl⟩
  ·exact he i hi
  ·exact (he i hi).turn
 refine ⟨λx hx=>?_,hR,qV hP.symm ?_,λx hx=>?_⟩
 ·obtain ⟨i,_,rfl⟩:=JN.1 (hP.mem_iff.1 hx);obtain ⟨_,_,_,g,_⟩:=tn hW0 hH0 hW hH i;exact g
 ·unfold Apart;rw [Vq];have hn:(List.range 4).Pairwise (λa b=>a≠b):=List.nodup_range;refine List.Pairwise.imp_of_mem (λ{i j} hi hj hij=>?_) hn;rw [Jz] at hi hj;refine t.edges_apart hW hH (hs i hi) (hs j hj) ?_;obtain ⟨a,b,e1,_,h1⟩:=tn hW0 hH0 hW hH i;obtain ⟨c,d,e2,_,h2⟩:=tn hW0 hH0 hW hH j;rw [e1,e2];intro h;refine ZO hW0 hH0 hi hj hij ?_;rcases h with ⟨rfl,rfl⟩ | ⟨rfl,rfl⟩ <;> rcases h1 with ⟨p1,p2⟩ | ⟨p1,p2⟩ <;> rcases h2 with ⟨q1,q2⟩ | ⟨q1,q2⟩
  ·exact .inl ⟨p1.symm.trans q1,p2.symm.trans q2⟩
  ·exact .inr ⟨p1.symm.trans q1,p2.symm.trans q2⟩
  ·exact .inr ⟨p2.symm.trans q2,p1.symm.trans q1⟩
  ·exact .inl ⟨p2.symm.trans q2,p1.symm.trans q1⟩
  ·exact .inr ⟨p1.symm.trans q2,p2.symm.trans q1⟩
  ·exact .inl ⟨p1.symm.trans q2,p2.symm.trans q1⟩
  ·exact .inl ⟨p2.symm.trans q1,p1.symm.trans q2⟩
  ·exact .inr ⟨p2.symm.trans q1,p1.symm.trans q2⟩
 ·obtain ⟨i,hi,rfl⟩:=JN.1 (hP.mem_iff.1 hx);exact hs i (Jz.1 hi)
def NewCPostW (W H:Int) (w:World) (e:Ending) (w':World):Prop:=
 ∃ cb mb b db v E L D,e=.returned (.pointer (some ⟨cb,0,none⟩))/\CdtAt w' cb mb b db v W H E D/\CInvW W H E L D/\L.length=2/\(∀ q,someC L q↔q=⟨0,0⟩\/q=⟨W,0⟩\/q=⟨W,H⟩\/q=⟨0,H⟩)/\D.Perm [sqW W H 0,sqW W H 1,sqW W H 2,sqW W H 3]/\Below w w w'/\w.heap.size<=b/\w.heap.size<=db/\w.heap.size<=mb/\w.heap.size<=cb
theorem rnewcdtX_any (W H:Int) (hW0:0 < W) (hH0:0 < H) (hW:W < 16777216) (hH:H < 16777216) (w:World):Calls prog 36 #[W,H] w (NewCPostW W H w):=by
 have k1:decide (W < 1)=false:=by simp;omega
 have k2:decide (16777216<=W)=false:=by simp;omega
 have k3:decide (H < 1)=false:=by simp;omega
 have k4:decide (16777216<=H)=false:=by simp;omega
 have vb:∀ q,inBox W H q->vld q=true:=λq hq=>by rw [zj];unfold inBox at hq;omega
 have v0:vld (⟨0,0⟩:Pt)=true:=vb _ (by unfold inBox;simp only;omega);have v1:vld (⟨W,0⟩:Pt)=true:=vb _ (by unfold inBox;simp only;omega);have v2:vld (⟨W,H⟩:Pt)=true:=vb _ (by unfold inBox;simp only;omega);have v3:vld (⟨0,H⟩:Pt)=true:=vb _ (by unfold inBox;simp only;omega);have pWH:=JI hW0 hH0;have d1:0 < det (⟨0,0⟩:Pt) ⟨W,0⟩ ⟨W,H⟩:=by
  have:det (⟨0,0⟩:Pt) ⟨W,0⟩ ⟨W,H⟩=W * H:=by unfold det;grind
  omega
 have d2:0 < det (⟨0,0⟩:Pt) ⟨W,H⟩ ⟨0,H⟩:=by
  have:det (⟨0,0⟩:Pt) ⟨W,H⟩ ⟨0,H⟩=W * H:=by unfold det;grind
  omega
 obtain ⟨cX,vX⟩:=yG v0 v1 v2 d1;obtain ⟨cY,vY⟩:=yG v0 v2 v3 d2;have tS:=tiles_square hW0 hH0 cX cY;have o1:¬ ori (⟨0,0⟩:Pt) ⟨W,0⟩ ⟨W,H⟩=0:=by rw [ori_v v0 v1 v2,yY];omega
 have o2:¬ ori (⟨0,0⟩:Pt) ⟨W,H⟩ ⟨0,H⟩=0:=by rw [ori_v v0 v2 v3,yY];omega
 have c1:=yS ⟨0,0⟩ ⟨W,0⟩ ⟨W,H⟩;have c2:=yS ⟨0,0⟩ ⟨W,H⟩ ⟨0,H⟩;rw [show (!decide (ori (⟨0,0⟩:Pt) ⟨W,0⟩ ⟨W,H⟩=0))=true by simp [o1]] at c1;rw [show (!decide (ori (⟨0,0⟩:Pt) ⟨W,H⟩ ⟨0,H⟩=0))=true by simp [o2]] at c2;dsimp only at c1 c2;have HC:=hdd (show ∀ q,someC [mk ⟨0,0⟩ ⟨W,0⟩ ⟨W,H⟩,mk ⟨0,0⟩ ⟨W,H⟩ ⟨0,H⟩] q↔q=⟨0,0⟩\/q=⟨W,0⟩\/q=⟨W,H⟩\/q=⟨0,H⟩ from λq=>by
  simp only [k8,cX.cnr_iff,cY.cnr_iff,U5 (jA q),Jj];constructor
  ·rintro ((k | k | k) | (k | k | k)) <;> simp [k]
  ·rintro (k | k | k | k) <;> simp [k])
 generalize mk ⟨0,0⟩ ⟨W,0⟩ ⟨W,H⟩=X at *
 generalize mk ⟨0,0⟩ ⟨W,H⟩ ⟨0,H⟩=Y at *
 have hok:∀ T∈[X,Y],okT T:=λT hT=>by
  simp only [Km,JB,Jj] at hT;rcases hT with rfl | rfl
  ·exact ye vX
  ·exact ye vY
 have gp:=Good.puts (I:=[X,Y]) (E:=[]) (M:=[]) ⟨.refl _,List.nodup_nil,λT hT=>by cases hT⟩ (λT hT=>by
  simp only [Km,JB,Jj] at hT;rcases hT with rfl | rfl
  ·exact vX
  ·exact vY) tS.once
 have cn:=λa w0 R=>rnew_any a 2 2 [X,Y] (hdd rfl) (by omega) hok w0 R;have HT:=hdd tS;have HXY:=hdd (show edgeL [X,Y] ⟨0,0⟩ ⟨W,0⟩/\edgeL [X,Y] ⟨W,0⟩ ⟨W,H⟩/\edgeL [X,Y] ⟨W,H⟩ ⟨0,H⟩/\edgeL [X,Y] ⟨0,H⟩ ⟨0,0⟩ from ⟨.inl (y6 (by simp) cX.way),.inl (y6 (by simp) cX.turn.way),.inl (y6 (by simp) cY.turn.way),.inl (y6 (by simp) cY.turn.turn.way)⟩);have HG:=hdd gp;have cs:=rsquare_any W H;clear v0 v1 v2 v3 vb d1 d2 o1 o2 cX cY vX vY hok tS gp pWH
 go_enter func36,ntmps36
 go_wp2_with fail;refine (cs _).mono ?_;rintro e w1 ⟨rfl,hb⟩;have hw:=hb;clear hb;go_wp2_with fail;refine zI λW2 hW=>?_;obtain ⟨bkq,hbq⟩:∃ b,w1.heap.size=b:=⟨_,rfl⟩;rw [hbq];obtain ⟨fq,Bq,hw⟩:=qM0 hW hbq hw;clear hW hbq;refine qC1 (c1 _) Bq hw λw3 Bq hw Fq=>?_;go_wp2_with fail;clear Fq;refine zI λW4 hW=>?_;obtain ⟨bkx,hbx⟩:∃ b,w3.heap.size=b:=⟨_,rfl⟩;rw [hbx];obtain ⟨lqx,fx,Bx,Bq,hw⟩:=qM1 hW hbx Bq hw;clear hW hbx;refine qC2 (c2 _) Bq Bx hw λw5 Bq Bx hw Rw=>?_;go_wp2_with fail;clear Rw;refine zI λW9 hW=>?_;have R1:RowAt cT 6 W9 (some ⟨w5+1,0,none⟩) [X,Y]:=jy (S:=[X,Y]) (by rw [hW];exact Box.new (by simp));have Bq9:Box W9 bkq [(),(),W,(),W,H,(),H] 115:=by rw [hW];exact (Bq.old _).old _
 replace hw:Below w w W9:=by have:=hw.size;rw [hW];go_grown
 have lq:=Bq.lt;have lq9:=Bq9.lt;clear hW Bq Bx;refine (cn _ _ R1).mono ?_;rintro e w10 hpost;unfold RNewPost at hpost;obtain ⟨mb,b,rfl,BM,HM,hbl,hml,hb,_⟩ | ⟨_,_,h⟩:=hpost
 rotate_left
 ·exact absurd h (by rw [HG.o.1];simp)
 have Bq10:=Bq9.ee hb;have hw10:=(upB hw hb);have hl1:=hw.size;replace hbl:=JQ hl1 hbl;replace hml:=JQ hl1 hml;have lm:=BM.lt;have lb:=HM.lt;have lq10:=Bq10.lt;generalize (putRun [] [X,Y]).2=E at *
 have HG:=hdd HG.o.2;clear hb cn R1 Bq9 hw c1 c2 cs;go_wp2;refine zG λW11 hW=>?_;have So:DocAt W11 w10.heap.size (.slice none 0 0) []:=⟨by rw [hW];exact (Box.new rfl).old _,World.ownsRow_nil _ _ _ _,by simp [Value.ownBlock],by simp⟩;have Bc:Box W11 (w10+1) [W,H,pt0 mb,pt0 w10.heap.size] 46:=by rw [hW];exact Box.new (by simp)
 have Bq:Box W11 bkq [(),(),W,(),W,H,(),H] 115:=by rw [hW];exact (Bq10.old _).old _
 have Bm:Box W11 mb [.map (some b)] 93:=by rw [hW];exact (BM.old _).old _
 have Hm:Hs W11 b E:=by rw [hW];exact (HM.alloc _).alloc _
 have hw:Below w w W11:=by have:=hw10.size;rw [hW];go_grown
 have hws:=hw10.size;clear hW BM HM Bq10 hw10;obtain ⟨db,hdb⟩:∃ db,w10.heap.size=db:=⟨_,rfl⟩;rw [hdb] at So Bc lm lb lq10 hws;rw [hdb];clear hdb;have HP0:=hdd (show ([]:List Wl).Perm ((List.range 0).map (sqW W H))/\Ris ([]:List Wl) from ⟨.refl _,List.Pairwise.nil⟩)
 go_loopw [11] (λv11 wr=>∃ (k:Nat) (j:Int) (v:Value) (D:List Wl),k<=4/\v11=.int .i64 j/\Hi (j=k)/\DocAt wr db v D/\Hi (D.Perm ((List.range k).map (sqW W H))/\Ris D)/\Box wr bkq [(),(),W,(),W,H,(),H] 115/\Box wr (db+1) [W,H,pt0 mb,pt0 db] 46/\Box wr mb [.map (some b)] 93/\Hs wr b E/\Below w w wr) (λv11 _=>4 - (intOf v11).toNat)
 case atStart=>exact ⟨0,0,_,[],by omega,rfl,hdd rfl,So,HP0,Bq,Bc,Bm,Hm,hw⟩
 case round=>
  clear So Bq Bc Bm Hm hw HP0;obtain ⟨k,j,v,D,hk,rfl,hj,So,HP,Bq,Bc,Bm,Hm,hw⟩:=hrel;have hk':k=0\/k=1\/k=2\/k=3\/k=4:=by omega
  rcases hk' with rfl | rfl | rfl | rfl | rfl
  ·have hj:j=0:=by simpa using hj.o
   subst hj;have cw:=kv ⟨0,0⟩ ⟨W,0⟩ 2;have HZ:=hdd (show (List.range (0+1)).map (sqW W H)=(List.range 0).map (sqW W H) ++ [mkW ⟨0,0⟩ ⟨W,0⟩ 2] by rw [VA,QA];rfl);have hZk:=xu ⟨0,0⟩ ⟨W,0⟩;have HNE:=hdd (show ∀ x∈D,x≠mkW ⟨0,0⟩ ⟨W,0⟩ 2 from λx hx e=>Xi hW0 hH0 hW hH (k:=0) (by omega) x (HP.o.1.mem_iff.1 hx) e);dsimp only at cw;generalize mkW ⟨0,0⟩ ⟨W,0⟩ 2=Z at *
   generalize mkOk ⟨0,0⟩ ⟨W,0⟩ 2=zk at *
   have hq1:IntKind.i64.wrap (0+1)=1:=by decide
   have hq2:IntKind.i64.wrap 1=1:=by decide
   have Fq:=Bq.f;have Fc:=Bc.f;go_wp2_with fail;have gq:=Bq.cells;have gc:=Bc.cells;refine rgl5 12 12 75 (λw41 bkz hb h1b h2b Bz=>?_);have lqz:=Bq.lt;have lcz:=Bc.lt;have hw0z:=hw.size;clear gq gc;clear Fq Fc;obtain ⟨Bq,Bc,hw,-⟩:=qX2 Bq Bc hw hb;have fz:=h1b;have hwz:w.heap.size<=wr.heap.size:=hw0z;replace So:=So.ee hb;replace Bm:=Bm.ee hb;replace Hm:=Hm.ee hb;clear hb h1b h2b hw0z;simp only [Act.put];have GQ:=J3 Bq.f Bc.f Bz.f;go_wp2_with fail;clear GQ;have gc:=Bc.cells;have gz:=Bz.cells;refine rgn 5 (λw60 hb=>?_);clear gc gz;replace So:=So.ee hb;replace Bm:=Bm.ee hb;replace Hm:=Hm.ee hb;obtain ⟨Bq,Bc,hw,-⟩:=qX2 Bq Bc hw hb;clear hb Bz;have hlD:D.length=0:=by have:=HP.o.1.length_eq;simpa using this
   have hkD:∀ x∈D,0<=x.K/\x.K<=2:=λx hx=>by
    obtain ⟨i,_,rfl⟩:=JN.1 (HP.o.1.mem_iff.1 hx);exact xu _ _
   have cp:=xq db v D Z (by omega) hkD hZk w60 So;clear hlD hkD;go_wp2_with fail;refine cp.mono ?_;rintro e w61 ⟨kp,v',rfl,hk5,So5,hf5,hv5⟩;have hdw:w.heap.size<=db:=hws;have hbd:(some b)≠(some db):=λe=>So.box.ne_map Hm (JL e).symm;have Bq5:=hf5.box Bq (by omega);have Bc5:=hf5.box Bc (by omega);have Bm5:=hf5.box Bm (by omega);have Hm5:=Hm.kept hf5.grown hbd;have hw5:=hw.trans (hf5.below (n:=w.heap.size) (λk hk=>by rw [hk];exact hdw) hw.size);have HP5:=hdd (show (D.take kp ++ Z :: D.drop kp).Perm ((List.range (0+1)).map (sqW W H))/\Ris (D.take kp ++ Z :: D.drop kp) from ⟨by
    rw [HZ.o];exact (xT kp).trans ((HP.o.1.cons _).trans (Jl (l₁:=[Z]))),jS HP.o.2 hk5 HNE.o⟩)
   clear cp HP HZ HNE hk5 hf5 hv5 So Bq Bc Bm Hm hw;go_wp2
   go_roundw
   case rel=>exact ⟨1,1,v',_,by omega,by first | rfl | go_num,hdd rfl,So5,HP5,Bq5,Bc5,Bm5,Hm5,hw5⟩
   case measure=>simp [intOf]
  ·have hj:j=1:=by simpa using hj.o
   subst hj;have cw:=kv ⟨W,0⟩ ⟨W,H⟩ 2;have HZ:=hdd (show (List.range (1+1)).map (sqW W H)=(List.range 1).map (sqW W H) ++ [mkW ⟨W,0⟩ ⟨W,H⟩ 2] by rw [VA,QA];rfl);have hZk:=xu ⟨W,0⟩ ⟨W,H⟩;have HNE:=hdd (show ∀ x∈D,x≠mkW ⟨W,0⟩ ⟨W,H⟩ 2 from λx hx e=>Xi hW0 hH0 hW hH (k:=1) (by omega) x (HP.o.1.mem_iff.1 hx) e);dsimp only at cw;generalize mkW ⟨W,0⟩ ⟨W,H⟩ 2=Z at *
   generalize mkOk ⟨W,0⟩ ⟨W,H⟩ 2=zk at *
   have hq1:IntKind.i64.wrap (1+1)=2:=by decide
   have hq2:IntKind.i64.wrap 2=2:=by decide
   have Fq:=Bq.f;have Fc:=Bc.f;go_wp2_with fail;have gq:=Bq.cells;have gc:=Bc.cells;refine rgl5 12 12 75 (λw41 bkz hb h1b h2b Bz=>?_);have lqz:=Bq.lt;have lcz:=Bc.lt;have hw0z:=hw.size;clear gq gc;clear Fq Fc;obtain ⟨Bq,Bc,hw,-⟩:=qX2 Bq Bc hw hb;have fz:=h1b;have hwz:w.heap.size<=wr.heap.size:=hw0z;replace So:=So.ee hb;replace Bm:=Bm.ee hb;replace Hm:=Hm.ee hb;clear hb h1b h2b hw0z;simp only [Act.put];have GQ:=J3 Bq.f Bc.f Bz.f;go_wp2_with fail;clear GQ;have gc:=Bc.cells;have gz:=Bz.cells;refine rgn 5 (λw60 hb=>?_);clear gc gz;replace So:=So.ee hb;replace Bm:=Bm.ee hb;replace Hm:=Hm.ee hb;obtain ⟨Bq,Bc,hw,-⟩:=qX2 Bq Bc hw hb;clear hb Bz;have hlD:D.length=1:=by have:=HP.o.1.length_eq;simpa using this
   have hkD:∀ x∈D,0<=x.K/\x.K<=2:=λx hx=>by
    obtain ⟨i,_,rfl⟩:=JN.1 (HP.o.1.mem_iff.1 hx);exact xu _ _
   have cp:=xq db v D Z (by omega) hkD hZk w60 So;clear hlD hkD;go_wp2_with fail;refine cp.mono ?_;rintro e w61 ⟨kp,v',rfl,hk5,So5,hf5,hv5⟩;have hdw:w.heap.size<=db:=hws;have hbd:(some b)≠(some db):=λe=>So.box.ne_map Hm (JL e).symm;have Bq5:=hf5.box Bq (by omega);have Bc5:=hf5.box Bc (by omega);have Bm5:=hf5.box Bm (by omega);have Hm5:=Hm.kept hf5.grown hbd;have hw5:=hw.trans (hf5.below (n:=w.heap.size) (λk hk=>by rw [hk];exact hdw) hw.size);have HP5:=hdd (show (D.take kp ++ Z :: D.drop kp).Perm ((List.range (1+1)).map (sqW W H))/\Ris (D.take kp ++ Z :: D.drop kp) from ⟨by
    rw [HZ.o];exact (xT kp).trans ((HP.o.1.cons _).trans (Jl (l₁:=[Z]))),jS HP.o.2 hk5 HNE.o⟩)
   clear cp HP HZ HNE hk5 hf5 hv5 So Bq Bc Bm Hm hw;go_wp2
   go_roundw
   case rel=>exact ⟨2,2,v',_,by omega,by first | rfl | go_num,hdd rfl,So5,HP5,Bq5,Bc5,Bm5,Hm5,hw5⟩
   case measure=>simp [intOf]
  ·have hj:j=2:=by simpa using hj.o
   subst hj;have cw:=kv ⟨W,H⟩ ⟨0,H⟩ 2;have HZ:=hdd (show (List.range (2+1)).map (sqW W H)=(List.range 2).map (sqW W H) ++ [mkW ⟨W,H⟩ ⟨0,H⟩ 2] by rw [VA,QA];rfl);have hZk:=xu ⟨W,H⟩ ⟨0,H⟩;have HNE:=hdd (show ∀ x∈D,x≠mkW ⟨W,H⟩ ⟨0,H⟩ 2 from λx hx e=>Xi hW0 hH0 hW hH (k:=2) (by omega) x (HP.o.1.mem_iff.1 hx) e);dsimp only at cw;generalize mkW ⟨W,H⟩ ⟨0,H⟩ 2=Z at *
   generalize mkOk ⟨W,H⟩ ⟨0,H⟩ 2=zk at *
   have hq1:IntKind.i64.wrap (2+1)=3:=by decide
   have hq2:IntKind.i64.wrap 3=3:=by decide
   have Fq:=Bq.f;have Fc:=Bc.f;go_wp2_with fail;have gq:=Bq.cells;have gc:=Bc.cells;refine rgl5 12 12 75 (λw41 bkz hb h1b h2b Bz=>?_);have lqz:=Bq.lt;have lcz:=Bc.lt;have hw0z:=hw.size;clear gq gc;clear Fq Fc;obtain ⟨Bq,Bc,hw,-⟩:=qX2 Bq Bc hw hb;have fz:=h1b;have hwz:w.heap.size<=wr.heap.size:=hw0z;replace So:=So.ee hb;replace Bm:=Bm.ee hb;replace Hm:=Hm.ee hb;clear hb h1b h2b hw0z;simp only [Act.put];have GQ:=J3 Bq.f Bc.f Bz.f;go_wp2_with fail;clear GQ;have gc:=Bc.cells;have gz:=Bz.cells;refine rgn 5 (λw60 hb=>?_);clear gc gz;replace So:=So.ee hb;replace Bm:=Bm.ee hb;replace Hm:=Hm.ee hb;obtain ⟨Bq,Bc,hw,-⟩:=qX2 Bq Bc hw hb;clear hb Bz;have hlD:D.length=2:=by have:=HP.o.1.length_eq;simpa using this
   have hkD:∀ x∈D,0<=x.K/\x.K<=2:=λx hx=>by
    obtain ⟨i,_,rfl⟩:=JN.1 (HP.o.1.mem_iff.1 hx);exact xu _ _
   have cp:=xq db v D Z (by omega) hkD hZk w60 So;clear hlD hkD;go_wp2_with fail;refine cp.mono ?_;rintro e w61 ⟨kp,v',rfl,hk5,So5,hf5,hv5⟩;have hdw:w.heap.size<=db:=hws;have hbd:(some b)≠(some db):=λe=>So.box.ne_map Hm (JL e).symm;have Bq5:=hf5.box Bq (by omega);have Bc5:=hf5.box Bc (by omega);have Bm5:=hf5.box Bm (by omega);have Hm5:=Hm.kept hf5.grown hbd;have hw5:=hw.trans (hf5.below (n:=w.heap.size) (λk hk=>by rw [hk];exact hdw) hw.size);have HP5:=hdd (show (D.take kp ++ Z :: D.drop kp).Perm ((List.range (2+1)).map (sqW W H))/\Ris (D.take kp ++ Z :: D.drop kp) from ⟨by
    rw [HZ.o];exact (xT kp).trans ((HP.o.1.cons _).trans (Jl (l₁:=[Z]))),jS HP.o.2 hk5 HNE.o⟩)
   clear cp HP HZ HNE hk5 hf5 hv5 So Bq Bc Bm Hm hw;go_wp2
   go_roundw
   case rel=>exact ⟨3,3,v',_,by omega,by first | rfl | go_num,hdd rfl,So5,HP5,Bq5,Bc5,Bm5,Hm5,hw5⟩
   case measure=>simp [intOf]
  ·have hj:j=3:=by simpa using hj.o
   subst hj;have cw:=kv ⟨0,H⟩ ⟨0,0⟩ 2;have HZ:=hdd (show (List.range (3+1)).map (sqW W H)=(List.range 3).map (sqW W H) ++ [mkW ⟨0,H⟩ ⟨0,0⟩ 2] by rw [VA,QA];rfl);have hZk:=xu ⟨0,H⟩ ⟨0,0⟩;have HNE:=hdd (show ∀ x∈D,x≠mkW ⟨0,H⟩ ⟨0,0⟩ 2 from λx hx e=>Xi hW0 hH0 hW hH (k:=3) (by omega) x (HP.o.1.mem_iff.1 hx) e);dsimp only at cw;generalize mkW ⟨0,H⟩ ⟨0,0⟩ 2=Z at *
   generalize mkOk ⟨0,H⟩ ⟨0,0⟩ 2=zk at *
   have hq1:IntKind.i64.wrap (3+1)=4:=by decide
   have hq2:IntKind.i64.wrap 4=4:=by decide
   have Fq:=Bq.f;have Fc:=Bc.f;go_wp2_with fail;have gq:=Bq.cells;have gc:=Bc.cells;refine rgl5 12 12 75 (λw41 bkz hb h1b h2b Bz=>?_);have lqz:=Bq.lt;have lcz:=Bc.lt;have hw0z:=hw.size;clear gq gc;clear Fq Fc;obtain ⟨Bq,Bc,hw,-⟩:=qX2 Bq Bc hw hb;have fz:=h1b;have hwz:w.heap.size<=wr.heap.size:=hw0z;replace So:=So.ee hb;replace Bm:=Bm.ee hb;replace Hm:=Hm.ee hb;clear hb h1b h2b hw0z;simp only [Act.put];have GQ:=J3 Bq.f Bc.f Bz.f;go_wp2_with fail;clear GQ;have gc:=Bc.cells;have gz:=Bz.cells;refine rgn 5 (λw60 hb=>?_);clear gc gz;replace So:=So.ee hb;replace Bm:=Bm.ee hb;replace Hm:=Hm.ee hb;obtain ⟨Bq,Bc,hw,-⟩:=qX2 Bq Bc hw hb;clear hb Bz;have hlD:D.length=3:=by have:=HP.o.1.length_eq;simpa using this
   have hkD:∀ x∈D,0<=x.K/\x.K<=2:=λx hx=>by
    obtain ⟨i,_,rfl⟩:=JN.1 (HP.o.1.mem_iff.1 hx);exact xu _ _
   have cp:=xq db v D Z (by omega) hkD hZk w60 So;clear hlD hkD;go_wp2_with fail;refine cp.mono ?_;rintro e w61 ⟨kp,v',rfl,hk5,So5,hf5,hv5⟩;have hdw:w.heap.size<=db:=hws;have hbd:(some b)≠(some db):=λe=>So.box.ne_map Hm (JL e).symm;have Bq5:=hf5.box Bq (by omega);have Bc5:=hf5.box Bc (by omega);have Bm5:=hf5.box Bm (by omega);have Hm5:=Hm.kept hf5.grown hbd;have hw5:=hw.trans (hf5.below (n:=w.heap.size) (λk hk=>by rw [hk];exact hdw) hw.size);have HP5:=hdd (show (D.take kp ++ Z :: D.drop kp).Perm ((List.range (3+1)).map (sqW W H))/\Ris (D.take kp ++ Z :: D.drop kp) from ⟨by
    rw [HZ.o];exact (xT kp).trans ((HP.o.1.cons _).trans (Jl (l₁:=[Z]))),jS HP.o.2 hk5 HNE.o⟩)
   clear cp HP HZ HNE hk5 hf5 hv5 So Bq Bc Bm Hm hw;go_wp2
   go_roundw
   case rel=>exact ⟨4,4,v',_,by omega,by first | rfl | go_num,hdd rfl,So5,HP5,Bq5,Bc5,Bm5,Hm5,hw5⟩
   case measure=>simp [intOf]
  ·have hj:j=4:=by simpa using hj.o
   subst hj;have gc:=Bc.cells;go_wp2_with fail;refine rgn 8 (λw60 hb=>?_);clear gc;have S6:CdtAt w60 (db+1) mb b db v W H E D:=⟨Bc.ee hb,Bm.ee hb,Hm.ee hb,So.ee hb,by omega,by omega⟩;have hw6:=(upB hw hb);obtain ⟨a9,c9,hv9,Dr,_⟩:=S6.doc.rd;have cr:=ka mb b db a9 c9 D.length E [X,Y] D W H hW hH (by simp) HG.o HT.o w60 S6.mesh S6.map Dr;clear hb So Bq Bc Bm Hm hw hv9 Dr;go_wp2_with fail;refine cr.mono ?_;rintro e w7 ⟨rfl,E2,L2,g5,H5,r5,f5⟩;have S7:CdtAt w7 (db+1) mb b db v W H E2 D:=⟨S6.box.turn S6.map g5,S6.mesh.turn S6.map g5,H5,S6.doc.turn S6.map g5,S6.cdb,S6.mdb⟩;have hw7:=hw6.grown g5 hw6.size (λk hk=>by cases hk;exact hbl);have HI:=hdd (show CInvW W H E2 L2 D from ⟨r5.good,f5,λx hx=>by
    obtain ⟨i,_,rfl⟩:=JN.1 (HP.o.1.mem_iff.1 hx);exact xu _ _,(winv_square hW0 hH0 hW hH HT.o HXY.o HP.o.1 HP.o.2).kept r5.kept,λx hx _=>by
    obtain ⟨i,hi,rfl⟩:=JN.1 (HP.o.1.mem_iff.1 hx);exact sqW_rim hW0 hH0 hW hH i⟩)
   have HL:=hdd (show L2.length=2 by rw [r5.kept.len];rfl);have HQ:=hdd (show ∀ q,someC L2 q↔q=⟨0,0⟩\/q=⟨W,0⟩\/q=⟨W,H⟩\/q=⟨0,H⟩ from λq=>(r5.kept.cnr q).trans (HC.o q));have HP4:=hdd (show D.Perm [sqW W H 0,sqW W H 1,sqW W H 2,sqW W H 3] from HP.o.1);clear cr g5 H5 r5 f5 S6 hw6;go_wp2
   go_ret
   exact ⟨db+1,mb,b,db,v,E2,L2,D,rfl,S7,HI.o,HL.o,HQ.o,HP4.o,hw7,hbl,hws,hml,by omega⟩
def Sq0 (s:Int) (L:List Tri3) (D:List Wl):Prop:=L.length=2/\D.Perm [sqW s s 0,sqW s s 1,sqW s s 2,sqW s s 3]
def Built9Post (s:Int) (P:List Int) (m0:Nat) (w:World) (e:Ending) (w':World):Prop:=
 ∃ n0 m2 b2 sb v7 cb mb b db v E2 E L D,e=.returned (.tuple #[pt0 m2,pt0 sb,pt0 cb])/\Box w' m2 [.map (some b2)] 102/\Hs w' b2 E2/\Good E2 L/\SetAt w' sb v7 D /\
  CdtAt w' cb mb b db v s s E D/\CInvW s s E L D/\(∀ q,someC L q↔PutPt s P q)/\L.length<=2+2 * P.length/\D.length<=6000/\(m0=0->P.length=0->Sq0 s L D)/\Below w w w'/\w.heap.size<=b/\w.heap.size<=db /\
  w.heap.size<=n0/\(cb < n0/\mb < n0/\b < n0/\db < n0/\∀ g,v.ownBlock=some g->g < n0)/\n0<=m2/\n0<=b2/\n0<=sb/\(∀ g,v7.ownBlock=some g->n0<=g)/\m2 < sb/\¬ Foot sb v7 m2
theorem jl (s:Int) (hs:0 < s) (hs2:s<=60) (a0 a1:Option Addr) (n m0 c0 c1:Nat) (P:List Int) (hP:Hi (P.length=n)) (hn:n<=30) (Q:List Pt) (hQ:Hi (Q.length=m0)) (hm0:m0<=30) (w:World) (h0:RowAt cI 1 w a0 P) (hq0:RowAt cP 2 w a1 Q):Calls prog 11 #[s,.slice a0 n c0,.slice a1 m0 c1] w (Built9Post s P m0 w):=by
 have cn:=rnewcdtX_any s s hs hs (by omega) (by omega);have csp:=λx=>vu s x hs hs2
 go_enter func11,ntmps11
 go_wp2_with fail;refine (cn _).mono ?_;rintro e w1 ⟨cb,mb,b,db,v,E,L,D,rfl,S,hI,hL,hC,hD,hw,hb1,hb2,hb3,hb4⟩;have hC':=hdd (show ∀ q,someC L q↔PutPt s [] q from λq=>by rw [hC q];simp [PutPt]);have hI':=hdd hI;have hL':=hdd (show L.length<=2+2 * 0 by omega);have hD':=hdd (show D.length<=4+2 * 0 by rw [hD.length_eq];simp);have hK':=hdd (show 0=0->Sq0 s L D from λ_=>⟨hL,hD⟩);replace hb1:=hdd hb1;replace hb2:=hdd hb2;clear cn hI hL hC hD;go_wp2_with fail
 go_loopw [10] (λvi wr=>∃ (k:Nat) (v:Value) (E:Es) (L:List Tri3) (D:List Wl),vi=.int .i64 k/\k<=n/\CdtAt wr cb mb b db v s s E D/\Hi (CInvW s s E L D)/\Hi (∀ q,someC L q↔PutPt s (P.take k) q)/\Hi (L.length<=2+2 * k)/\Hi (D.length<=4+2 * k)/\Hi (k=0->Sq0 s L D)/\Below w w wr) (λvi _=>n - (intOf vi).toNat)
 case atStart=>exact ⟨0,v,E,L,D,rfl,JZ _,S,hI',by simpa using hC',hL',hD',hdd (λ_=>hK'.o trivial),hw⟩
 case round=>
  clear S hI' hC' hL' hD' hK' hw;obtain ⟨k,v,E,L,D,rfl,hk,S,hI,hC,hL,hD,hK,hw⟩:=hrel;by_cases hlt:k < n
  case neg=>
   obtain rfl:n=k:=by omega
   have hC2:=hdd (show ∀ q,someC L q↔PutPt s P q from λq=>by rw [hC.o q,JM (by rw [hP.o];omega)]);clear hC hlt hk;have hDQ:=hdd (show D.length<=64+186 * 0 by have:=hD.o;omega);have hKQ:=hK;clear hK;have hLQ:=hdd (show L.length<=2+2 * n from hL.o);clear hD hL;go_wp2
   go_loopw [11] (λvi wr=>∃ (k:Nat) (v:Value) (E:Es) (L:List Tri3) (D:List Wl),vi=.int .i64 k/\k<=m0/\CdtAt wr cb mb b db v s s E D/\Hi (CInvW s s E L D)/\Hi (∀ q,someC L q↔PutPt s P q)/\Hi (L.length<=2+2 * n)/\Hi (D.length<=64+186 * k)/\Hi (k=0->n=0->Sq0 s L D)/\Below w w wr) (λvi _=>m0 - (intOf vi).toNat)
   case atStart=>exact ⟨0,v,E,L,D,rfl,JZ _,S,hI,hC2,hLQ,hDQ,hdd (λ_=>hKQ.o),hw⟩
   case round=>
    clear S hI hC2 hLQ hDQ hKQ hw;obtain ⟨k,v,E,L,D,rfl,hk,S,hI,hC2,hL,hD,hKQ,hw⟩:=hrel;by_cases hlt:k < m0
    case neg=>
     have hkn:¬ (k:Int) < (m0:Int):=by omega
     clear hlt;have hG:=hI.o.good;have hLk:=hL.o;have hE:E.length<=1000000:=by rw [hG.len];omega
     have ht:=λW B H=>ZR mb b E hE W B H;have hp0:(srt cmpT (heads (λ_=>true) E)).Perm L:=(zS _).trans hG.heads;generalize srt cmpT (heads (λ_=>true) E)=I at *
     obtain ⟨m,hm⟩:∃ m,I.length=m:=⟨_,rfl⟩;rw [hm] at ht;have hm1:m<=1000000:=by rw [<-hm,hp0.length_eq];omega
     have hv:∀ T∈I,valT T=true:=λT h=>hG.val T (hp0.mem_iff.1 h);have hgo:=Good.puts (I:=I) (E:=[]) (M:=[]) ⟨by simp,by simp [KeysNodup],by simp⟩ hv (by
      rw [Jf];exact ((hp0.flatMap_right ways).nodup_iff).2 hG.once)
     rw [Jf,hm] at hgo;obtain ⟨hg1,hg2⟩:=hgo;have hG2:=hdd (show Good (putRun [] I).2 L from ⟨hg2.perm.trans (hp0.flatMap_right wys),hg2.nodup,hG.val⟩);have hn2:=λa cap W H=>mnew_1 a cap m I (hdd hm) hm1 (λT h=>ye (hv T h)) hg1 W H;clear hg1 hg2 hv hp0 hm1 hE hG hLk hm;have Fs:=S.box.f;go_wp2_with fail;clear Fs;refine (ht _ S.mesh S.map).mono ?_;rintro e w5 ⟨a5,c5,rfl,hr5,hb⟩;replace S:=S.ee hb;have hw5:=(upB hw hb);clear hb ht hw;go_wp2_with fail;refine (hn2 _ _ _ hr5).mono ?_;rintro e w6 ⟨m2,b2,rfl,B2,H2,h1,h2,hb⟩;have S6:=S.ee hb;have hw6:=(upB hw5 hb);have hbl:=S.map.lt;have hdl:=S.doc.box.lt;have hcl:=S.box.lt;have hml:=S.mesh.lt;have hvl:=hdd (show ∀ g,v.ownBlock=some g->g < w5.heap.size from λg hg=>(S.doc.row.lt g hg).2);have hs6:=hb.size;clear hb hn2 hr5;obtain ⟨a9,c9,rfl,Dr,hz⟩:=S6.doc.rd;have hD9:D.length < 1000000:=by have:=hD.o;omega
     have cw:=λW R=>new_set (a:=a9) (c:=c9) hD9 Dr.flat (λe=>(hz e).1) hI.o.wal.ris hI.o.wal.apart hI.o.wal.good W R;have Fs:=S6.box.f;have Fd:=Dr.box.f;go_wp2_with fail;clear Fs Fd;refine (cw _ Dr.row).mono ?_;rintro e w7 ⟨sb,v7,rfl,A7,hs7,ho7,hb⟩;have hm7:=B2.lt;have hbs:=hb.size;have HF:=hdd (show ¬ Foot sb v7 m2 from λh=>by
      rcases h with h | h
      ·omega
      ·have:=ho7 _ h;omega)
     have HO:=hdd (show ∀ g,v7.ownBlock=some g->w5.heap.size<=g from λg hg=>by have:=ho7 g hg;omega);clear hbs ho7;have S7:=S6.ee hb;have hw7:=(upB hw6 hb);have B7:=B2.ee hb;have H7:=H2.ee hb;clear hb cw;go_wp2;refine bodyPost_ret (v:=.tuple #[pt0 m2,pt0 sb,pt0 cb]) (by simp [results,results11,go_sem]) rfl ?_;exact ⟨w5.heap.size,m2,b2,sb,v7,cb,mb,b,db,_,_,E,L,D,rfl,B7,H7,hG2.o,A7,S7,hI.o,hC2.o,by rw [hP.o];exact hL.o,by have:=hD.o;omega,λe1 e2=>hKQ.o (by omega) (by rw [<-hP.o];exact e2),hw7,hb1.o,hb2.o,hw5.size,⟨hcl,hml,hbl,hdl,hvl.o⟩,h2,h1,by omega,HO.o,by omega,HF.o⟩
    case pos=>
     have hlk:k < Q.length:=hQ.o▸hlt;obtain ⟨ad,A,ea,eA,hA0⟩:=hq0.two hlk;have hA:=hA0.ee hw;generalize Q[k]=x at *
     have cs1:=λw0=>vu s x.x hs hs2 w0;have cs2:=λw0=>vu s x.y hs hs2 w0;have hLk:=hL.o;have hDk:=hD.o;have ca:=λp q W0 S0=>rcaddwX_any cb mb b db v s s hs hs (by omega) (by omega) E L D hI.o (by omega) (by omega) p q W0 S0;subst ea;obtain ⟨s0,s1⟩:=hA.cells;have q0:(k:Int) < (m0:Int):=by omega
     clear hA hA0 hLk hDk;go_wp2_with fail;refine wrt 15 (by kernel_rfl) (by kernel_rfl) ?_;simp only [tK1,tK0,dP1,dP0];refine wkx ?_;intro w3 hb;clear s0 s1 cs1 cs2;replace S:=S.ee hb;replace hw:=upB hw hb;clear hb;go_wp2_with fail;refine (ca _ _ w3 S).mono ?_;rintro e w4 ⟨r,v',E1,E',L',D',rfl,S',hI2,_,_,_,hC3,hL2,hD2,hf⟩;have hw4:Below w w w4:=hw.trans (hf.below (λj hj=>by have:=hb1.o;have:=hb2.o;rcases hj with rfl | rfl <;> omega) hw.size);have hC4:=hdd (show ∀ q,someC L' q↔PutPt s P q from λq=>(hC3 q).trans (hC2.o q));have hL3:=hdd (show L'.length<=2+2 * n by rw [hL2];exact hL.o);have hD3:=hdd (show D'.length<=64+186 * (k+1) by have:=hL.o;have:=hD.o;omega);have hI3:=hdd hI2;clear hC3 hL2 hD2 hf hI2 S hw ca hC2 hL hD hI;go_wp2_with fail
     go_roundw
     case rel=>exact ⟨k+1,v',E',L',D',by go_num,by omega,S',hI3,hC4,hL3,hD3,hdd (λe=>absurd e (Nat.succ_ne_zero k)),hw4⟩
     case measure=>simp [intOf];omega
  case pos=>
   have hlk:k < P.length:=hP.o▸hlt;have HN:=hdd (show P.take (k+1)=P.take k ++ [P[k]] from JD hlk);obtain ⟨ad,ea,hab0,hA0⟩:=h0.num hlk;have hA:=(h0.ee hw).num hlk;obtain ⟨ad2,ea2,hab,hA⟩:=hA;obtain rfl:ad=ad2:=by rw [ea] at ea2;exact JL ea2
   clear hA0 ea2;generalize P[k]=x at *
   go_wp2_with fail;refine (csp x _).mono ?_;rintro e w3 ⟨rfl,hb⟩;replace S:=S.ee hb;replace hw:=upB hw hb;clear hb hA;go_wp2_with fail;have hLk:=hL.o;have hDk:=hD.o;refine (rcaddX_any cb mb b db v s s hs hs (by omega) (by omega) E L D hI.o (by omega) (by omega) (spt s x) _ S).mono ?_;rintro e w4 ⟨r,v',E',L',D',rfl,S',hI2,hr,hC2,hL2,hD2,hkk,hf⟩;have hw4:Below w w w4:=hw.trans (hf.below (λj hj=>by have:=hb1.o;have:=hb2.o;rcases hj with rfl | rfl <;> omega) hw.size);have hC3:=hdd (show ∀ q,someC L' q↔PutPt s (P.take (k+1)) q from λq=>by
    rw [hC2 q,hC.o q,HN.o];have hin:inBox s s (spt s x):=YS hs x;unfold PutPt;constructor
    ·rintro ((h | ⟨y,h1,h2⟩) | ⟨h,_⟩)
     ·exact .inl h
     ·exact .inr ⟨y,Jo _ h1,h2⟩
     ·exact .inr ⟨x,by simp,h⟩
    ·rintro (h | ⟨y,h1,h2⟩)
     ·exact .inl (.inl h)
     ·rcases JG.1 h1 with h1 | h1
      ·exact .inl (.inr ⟨y,h1,h2⟩)
      ·rw [QX] at h1;rw [h1] at h2;exact .inr ⟨h2,hin⟩)
   have hL3:=hdd (show L'.length<=2+2 * (k+1) by omega);have hD3:=hdd (show D'.length<=4+2 * (k+1) by omega);have hI3:=hdd hI2;have hK3:=hdd (show k+1=0->Sq0 s L' D' from λe=>by omega);clear hkk hK;clear hC2 hL2 hD2 hf hr hLk hDk hI2 S hw;go_wp2_with fail;rw [<-ea]
   go_roundw
   case rel=>exact ⟨k+1,v',E',L',D',by go_num,by omega,S',hI3,hC3,hL3,hD3,hK3,hw4⟩
   case measure=>simp [intOf];omega
end
end Go.Proofs.YtmpfadapbbjbkaaGreat
namespace Go.Proofs.YtmpfadapbbjbkaaGreat.FT
open Go.RowKit Go.Sort
variable {P:Program} {Q:Exit->Act->World->Prop}
theorem wp_region_flowC {id:Nat} {a:Act} {w:World} {l:List Oper} (n:Nat) (pl:Plan) (hm:P.follows .mixedOrders=true) (hB:(Region.noSelect l.toArray && decide (n < l.toArray.size) && Region.sinkB .any l.toArray n && Region.chainB .any l.toArray n && planB .any n l.toArray [] pl (Array.replicate l.toArray.size false))=true) (hQ:∀ c x v a w,Q (.panic c) (Act.put a x v) w->Q (.panic c) a w) {C:World->Prop} (hC:∀ w',Below w w w'->C w') (hcl:∀ x y,Ext x y->C x->C y) (h:flow P l.toArray n Q pl C a w):(Code.region id l.toArray true).wp P Q a w:=by
 simp only [Ko,Kn] at hB;obtain ⟨⟨⟨⟨h1,h2⟩,h3⟩,h4⟩,h5⟩:=hB;refine wp_region_any hm ?_;have hx:Ext w { w with drawn:=w.drawn+1 }:=⟨rfl,rfl,rfl,JA _,λ_ _=>rfl⟩;exact tO h1 h2 h3 h4 hQ _ pl C _ a w _ h5 headInv0 (by
  have:=Qe (λi => !(Array.replicate l.toArray.size false).getD i true) (List.range n);rw [VT] at this;unfold undone;omega) hcl (hC _ hx) hx h
end Go.Proofs.YtmpfadapbbjbkaaGreat.FT
namespace Go.Proofs.YtmpfadapbbjbkaaGreat
open _root_.Go.Proofs.Tryz
section
open Go.RowKit Go.Sort
attribute [local go_sem] rOper rAt rUpon cell_set sg_i64 sg_u64 alloc_cell alloc_frozen
attribute [local go_sem 10000] pt_eql pt_neq tri_eql
attribute [local irreducible] rWalk
def badP (E:Es) (Lw:List Wl) (p q:Pt):Bool:=(lftE E p q).2 && ((lftE E q p).2 && (decide (kindW Lw (lo2 p q) (hi2 p q)=0) && decide (circ p q (apx (lftE E p q).1 p q) (apx (lftE E q p).1 p q)=1)))
def badC (E:Es) (Lw:List Wl) (p q:Pt):Pt×Pt:=if (lftE E p q).2=true/\(lftE E q p).2=true/\kindW Lw (lo2 p q) (hi2 p q)=0 then (apx (lftE E p q).1 p q,apx (lftE E q p).1 p q) else (⟨0,0⟩,⟨0,0⟩)
theorem fbad_a (mb b:Nat) (E:Es) (sb:Nat) (a0:Option Addr) (c n:Nat) (Lw:List Wl) (p q:Pt) (hk:okW (p,q)) (X Y:Tri3) (h1:lftE E p q=(X,false)) (v2:Bool) (h2:lftE E q p=(Y,v2)) (w:World) (Bm:Box w mb [.map (some b)] 102) (Hm:Hs w b E) (S:SetRd w sb a0 c n Lw):Calls prog 134 #[pt0 mb,pt0 sb,p,q] w (Rt w (.tuple #[.agg #[(),()],.agg #[(),()],.bool false])):=by
 have cl:=qN mb b E p q hk;have cl':=qN mb b E q p ⟨hk.2,hk.1⟩;have ck:=qO sb a0 c n Lw p q;have _:=S;rw [h1] at cl;rw [h2] at cl';clear h1 h2 hk
 go_enter func134,ntmps134
 go_wp2_with fail;refine qE4 λW1 Ba Bb Bc Bd hw=>?_;refine qC4 (cl _ (Bm.ee hw) (Hm.ee hw)) Ba Bb Bc Bd hw λw2 Ba Bb Bc Bd hw Fj=>?_;go_wp2_with fail;clear Fj;refine zI λW3 hW=>?_;obtain ⟨bkx,hbx⟩:∃ b,w2.heap.size=b:=⟨_,rfl⟩;rw [hbx];obtain ⟨lax,lbx,lcx,ldx,fx,Bx,Ba,Bb,Bc,Bd,hw⟩:=qM4 hW hbx Ba Bb Bc Bd hw;clear hW hbx;refine qC5 (cl' _ (Bm.ee hw) (Hm.ee hw)) Ba Bb Bc Bd Bx hw λw4 Ba Bb Bc Bd Bx hw GV=>?_;go_wp2_with fail;clear GV;refine zG λW5 hW=>?_;obtain ⟨bky,hby⟩:∃ b,w4.heap.size=b:=⟨_,rfl⟩;rw [hby];obtain ⟨lay,lby,lcy,ldy,lxy,fy,By,Ba,Bb,Bc,Bd,Bx,hw⟩:=qM5 hW hby Ba Bb Bc Bd Bx hw;clear hW hby;have Fa:=Ba.f;have Fb:=Bb.f;have Fc:=Bc.f;have Fd:=Bd.f;have Fx:=Bx.f;have Fy:=By.f;clear cl cl' ck Bm Hm S
 go_region
 go_wp2;refine bodyPost_ret (v:=.tuple #[.agg #[(),()],.agg #[(),()],.bool false]) (by simp [results,results134,go_sem,Fc,Fd]) rfl ⟨rfl,by have hl:=hw.size;go_grown⟩
theorem fbad_b (mb b:Nat) (E:Es) (sb:Nat) (a0:Option Addr) (c n:Nat) (Lw:List Wl) (p q:Pt) (hk:okW (p,q)) (X Y:Tri3) (h1:lftE E p q=(X,true)) (h2:lftE E q p=(Y,false)) (w:World) (Bm:Box w mb [.map (some b)] 102) (Hm:Hs w b E) (S:SetRd w sb a0 c n Lw):Calls prog 134 #[pt0 mb,pt0 sb,p,q] w (Rt w (.tuple #[.agg #[(),()],.agg #[(),()],.bool false])):=by
 have cl:=qN mb b E p q hk;have cl':=qN mb b E q p ⟨hk.2,hk.1⟩;have ck:=qO sb a0 c n Lw p q;have _:=S;rw [h1] at cl;rw [h2] at cl';clear h1 h2 hk
 go_enter func134,ntmps134
 go_wp2_with fail;refine qE4 λW1 Ba Bb Bc Bd hw=>?_;refine qC4 (cl _ (Bm.ee hw) (Hm.ee hw)) Ba Bb Bc Bd hw λw2 Ba Bb Bc Bd hw Fj=>?_;go_wp2_with fail;clear Fj;refine zI λW3 hW=>?_;obtain ⟨bkx,hbx⟩:∃ b,w2.heap.size=b:=⟨_,rfl⟩;rw [hbx];obtain ⟨lax,lbx,lcx,ldx,fx,Bx,Ba,Bb,Bc,Bd,hw⟩:=qM4 hW hbx Ba Bb Bc Bd hw;clear hW hbx;refine qC5 (cl' _ (Bm.ee hw) (Hm.ee hw)) Ba Bb Bc Bd Bx hw λw4 Ba Bb Bc Bd Bx hw GV=>?_;go_wp2_with fail;clear GV;refine zG λW5 hW=>?_;obtain ⟨bky,hby⟩:∃ b,w4.heap.size=b:=⟨_,rfl⟩;rw [hby];obtain ⟨lay,lby,lcy,ldy,lxy,fy,By,Ba,Bb,Bc,Bd,Bx,hw⟩:=qM5 hW hby Ba Bb Bc Bd Bx hw;clear hW hby;have Fa:=Ba.f;have Fb:=Bb.f;have Fc:=Bc.f;have Fd:=Bd.f;have Fx:=Bx.f;have Fy:=By.f;clear cl cl' ck Bm Hm S
 go_region
 go_wp2;refine bodyPost_ret (v:=.tuple #[.agg #[(),()],.agg #[(),()],.bool false]) (by simp [results,results134,go_sem,Fc,Fd]) rfl ⟨rfl,by have hl:=hw.size;go_grown⟩
theorem fbad_c (mb b:Nat) (E:Es) (sb:Nat) (a0:Option Addr) (c n:Nat) (Lw:List Wl) (p q:Pt) (hk:okW (p,q)) (X Y:Tri3) (h1:lftE E p q=(X,true)) (h2:lftE E q p=(Y,true)) (h3:¬ kindW Lw (lo2 p q) (hi2 p q)=0) (w:World) (Bm:Box w mb [.map (some b)] 102) (Hm:Hs w b E) (S:SetRd w sb a0 c n Lw):Calls prog 134 #[pt0 mb,pt0 sb,p,q] w (Rt w (.tuple #[.agg #[(),()],.agg #[(),()],.bool false])):=by
 have cl:=qN mb b E p q hk;have cl':=qN mb b E q p ⟨hk.2,hk.1⟩;have ck:=qO sb a0 c n Lw p q;have _:=S;rw [h1] at cl;rw [h2] at cl';clear h1 h2 hk;generalize kindW Lw (lo2 p q) (hi2 p q)=k at *
 have h3':(k != 0)=true:=by simpa using h3
 go_enter func134,ntmps134
 go_wp2_with fail;refine qE4 λW1 Ba Bb Bc Bd hw=>?_;refine qC4 (cl _ (Bm.ee hw) (Hm.ee hw)) Ba Bb Bc Bd hw λw2 Ba Bb Bc Bd hw Fj=>?_;go_wp2_with fail;clear Fj;refine zI λW3 hW=>?_;obtain ⟨bkx,hbx⟩:∃ b,w2.heap.size=b:=⟨_,rfl⟩;rw [hbx];obtain ⟨lax,lbx,lcx,ldx,fx,Bx,Ba,Bb,Bc,Bd,hw⟩:=qM4 hW hbx Ba Bb Bc Bd hw;clear hW hbx;refine qC5 (cl' _ (Bm.ee hw) (Hm.ee hw)) Ba Bb Bc Bd Bx hw λw4 Ba Bb Bc Bd Bx hw GV=>?_;go_wp2_with fail;clear GV;refine zI λW5 hW=>?_;obtain ⟨bky,hby⟩:∃ b,w4.heap.size=b:=⟨_,rfl⟩;rw [hby];obtain ⟨lay,lby,lcy,ldy,lxy,fy,By,Ba,Bb,Bc,Bd,Bx,hw⟩:=qM5 hW hby Ba Bb Bc Bd Bx hw;clear hW hby;refine qK6 (ck _ (S.ee hw)) Ba Bb Bc Bd Bx By hw λw6 Ba Bb Bc Bd Bx By hw=>?_;have Fa:=Ba.f;have Fb:=Bb.f;have Fc:=Bc.f;have Fd:=Bd.f;have Fx:=Bx.f;have Fy:=By.f;go_wp2_with fail;clear cl cl' ck Bm Hm S
 go_region
 go_wp2;refine bodyPost_ret (v:=.tuple #[.agg #[(),()],.agg #[(),()],.bool false]) (by simp [results,results134,go_sem,Fc,Fd]) rfl ⟨rfl,by have hl:=hw.size;go_grown⟩
theorem fbad_d (mb b:Nat) (E:Es) (sb:Nat) (a0:Option Addr) (c n:Nat) (Lw:List Wl) (p q:Pt) (hk:okW (p,q)) (X Y:Tri3) (h1:lftE E p q=(X,true)) (h2:lftE E q p=(Y,true)) (h3:kindW Lw (lo2 p q) (hi2 p q)=0) (C D:Pt) (hC:apx X p q=C) (hD:apx Y p q=D) (w:World) (Bm:Box w mb [.map (some b)] 102) (Hm:Hs w b E) (S:SetRd w sb a0 c n Lw):Calls prog 134 #[pt0 mb,pt0 sb,p,q] w (Rt w (.tuple #[C,D,.bool (decide (circ p q C D=1))])):=by
 have cl:=qN mb b E p q hk;have cl':=qN mb b E q p ⟨hk.2,hk.1⟩;have ck:=qO sb a0 c n Lw p q;have _:=S;rw [h1] at cl;rw [h2] at cl';clear h1 h2 hk;have cx:=ks X p q;have cy:=ks Y p q;rw [hC] at cx;rw [hD] at cy;rw [h3] at ck;have cc:=λw0=>circle_any p q C D w0;clear hC hD h3
 go_enter func134,ntmps134
 go_wp2_with fail;refine qE4 λW1 Ba Bb Bc Bd hw=>?_;refine qC4 (cl _ (Bm.ee hw) (Hm.ee hw)) Ba Bb Bc Bd hw λw2 Ba Bb Bc Bd hw Fj=>?_;go_wp2_with fail;clear Fj;refine zI λW3 hW=>?_;obtain ⟨bkx,hbx⟩:∃ b,w2.heap.size=b:=⟨_,rfl⟩;rw [hbx];obtain ⟨lax,lbx,lcx,ldx,fx,Bx,Ba,Bb,Bc,Bd,hw⟩:=qM4 hW hbx Ba Bb Bc Bd hw;clear hW hbx;refine qC5 (cl' _ (Bm.ee hw) (Hm.ee hw)) Ba Bb Bc Bd Bx hw λw4 Ba Bb Bc Bd Bx hw GV=>?_;go_wp2_with fail;clear GV;refine zI λW5 hW=>?_;obtain ⟨bky,hby⟩:∃ b,w4.heap.size=b:=⟨_,rfl⟩;rw [hby];obtain ⟨lay,lby,lcy,ldy,lxy,fy,By,Ba,Bb,Bc,Bd,Bx,hw⟩:=qM5 hW hby Ba Bb Bc Bd Bx hw;clear hW hby;refine qK6 (ck _ (S.ee hw)) Ba Bb Bc Bd Bx By hw λw6 Ba Bb Bc Bd Bx By hw=>?_;have Fa:=Ba.f;have Fb:=Bb.f;have Fc:=Bc.f;have Fd:=Bd.f;have Fx:=Bx.f;have Fy:=By.f;go_wp2_with fail;clear cl cl' ck Bm Hm S;have R3:=J6 Ba.cells Bb.cells Bc.cells Bd.cells Bx.cells By.cells;refine rgn 8 (λw7 hb=>?_);clear R3;clear Fa Fb Fc Fd Fx Fy;obtain ⟨Ba,Bb,Bc,Bd,Bx,By,hw,-⟩:=qX6 Ba Bb Bc Bd Bx By hw hb;have Fa:=Ba.f;have Fb:=Bb.f;have Fc:=Bc.f;have Fd:=Bd.f;have Fx:=Bx.f;have Fy:=By.f;go_wp2_with fail;refine zG λW8 hW=>?_;replace Ba:=sto Ba hW;replace Bb:=sto Bb hW;replace Bc:=sto Bc hW;replace Bd:=sto Bd hW;replace Bx:=sto Bx hW;replace By:=sto By hW;replace hw:=stw hw hW;clear Fa Fb Fc Fd Fx Fy;clear hW;have hCl:∀ x y,Ext x y->(λw'=>Box w' (w.heap.size) [p.x,p.y] 26/\Box w' (w.heap.size+1) [q.x,q.y] 26/\Box w' (w.heap.size+1+1) [C.x,C.y] 26/\Box w' (w.heap.size+1+1+1) [D.x,D.y] 26) x->(λw'=>Box w' (w.heap.size) [p.x,p.y] 26/\Box w' (w.heap.size+1) [q.x,q.y] 26/\Box w' (w.heap.size+1+1) [C.x,C.y] 26/\Box w' (w.heap.size+1+1+1) [D.x,D.y] 26) y:=λx y h1 h2=>⟨Box.ext (h2.1) h1 rfl,Box.ext (h2.2.1) h1 rfl,Box.ext (h2.2.2.1) h1 rfl,Box.ext (h2.2.2.2) h1 rfl⟩;have Ga:=Ba;have Gb:=Bb;have Gc:=Bc;have Gd:=Bd;refine FT.wp_region_flowC 10 (.run 0 (.run 1 (.run 2 (.run 3 (.run 4 (.run 5 (.alt 6 (.run 7 (.alt 8 (.alt 9 .tail .stop) .stop)) .stop))))))) rfl (by kernel_rfl) (λ_ x _ _ _ h=>by cases x <;> exact h) (C:=λw'=>Box w' (w.heap.size) [p.x,p.y] 26/\Box w' (w.heap.size+1) [q.x,q.y] 26/\Box w' (w.heap.size+1+1) [C.x,C.y] 26/\Box w' (w.heap.size+1+1+1) [D.x,D.y] 26) (λ_ h=>⟨Ga.ee h,Gb.ee h,Gc.ee h,Gd.ee h⟩) hCl ?_;refine FT.flow_run rfl (λK hK=>?_);go_simp;refine ⟨.agg #[C.x,C.y],λwq hq0 hq1 hq2 hq3=>?_,hK _ ?_⟩
 ·obtain ⟨y0,y1,y2,y3⟩:=hq2.f;go_simp
 clear hK K;refine FT.flow_run rfl (λK hK=>?_);go_simp;refine ⟨.agg #[D.x,D.y],λwq hq0 hq1 hq2 hq3=>?_,hK _ ?_⟩
 ·obtain ⟨y0,y1,y2,y3⟩:=hq3.f;go_simp
 clear hK K;refine FT.flow_run rfl (λK hK=>?_);go_simp;refine ⟨.agg #[p.x,p.y],λwq hq0 hq1 hq2 hq3=>?_,hK _ ?_⟩
 ·obtain ⟨y0,y1,y2,y3⟩:=hq0.f;go_simp
 clear hK K;refine FT.flow_run rfl (λK hK=>?_);go_simp;refine ⟨.agg #[q.x,q.y],λwq hq0 hq1 hq2 hq3=>?_,hK _ ?_⟩
 ·obtain ⟨y0,y1,y2,y3⟩:=hq1.f;go_simp
 clear hK K;refine FT.flow_run rfl (λK hK=>?_);go_simp;refine ⟨.agg #[C.x,C.y],λwq hq0 hq1 hq2 hq3=>?_,hK _ ?_⟩
 ·obtain ⟨y0,y1,y2,y3⟩:=hq2.f;go_simp
 clear hK K;refine FT.flow_run rfl (λK hK=>?_);go_simp;refine ⟨.agg #[D.x,D.y],λwq hq0 hq1 hq2 hq3=>?_,hK _ ?_⟩
 ·obtain ⟨y0,y1,y2,y3⟩:=hq3.f;go_simp
 clear hK K;refine FT.flow_at hCl rfl trivial (λwc hwc K hK=>?_);go_simp;refine (cc _).mono ?_;rintro e w9 ⟨rfl,hb9⟩;have hb8:=Below.trans hwc (hb9.mono (Below.size hwc));replace Ga:=Ga.ee hb8;replace Gb:=Gb.ee hb8;replace Gc:=Gc.ee hb8;replace Gd:=Gd.ee hb8;replace hw:=upB hw hb8;clear hwc hb9 hb8;go_simp;refine hK _ _ ⟨Ga,Gb,Gc,Gd⟩ ?_;clear hK K
 (refine FT.flow_run rfl (λK hK=>?_);go_simp;first | (refine hK _ ?_;clear hK K) | (refine ⟨_,λ_ _ _ _ _=>rfl,hK _ ?_⟩;clear hK K))
 refine FT.flow_at hCl rfl trivial (λwc hwc K hK=>?_);go_simp;replace Ga:=Ga.ee hwc;replace Gb:=Gb.ee hwc;replace Gc:=Gc.ee hwc;replace Gd:=Gd.ee hwc;replace hw:=upB hw hwc;clear hwc;obtain ⟨y0,y1,y2,y3⟩:=Gc.f;go_simp;clear y0 y1 y2 y3;have hN:Below w w ((wc.setCell ⟨w+1+1,0,none⟩ (.int .i64 C.x)).setCell ⟨w+1+1,1,none⟩ (.int .i64 C.y)):=by have hl:=hw.size;go_grown
 replace Ga:Box ((wc.setCell ⟨w+1+1,0,none⟩ (.int .i64 C.x)).setCell ⟨w+1+1,1,none⟩ (.int .i64 C.y)) (w.heap.size) [p.x,p.y] 26:=((Ga.set_ne ⟨w+1+1,0,none⟩ (.int .i64 C.x) (by first | assumption | (show (w.heap.size+1+1:Nat)≠_;omega))).set_ne ⟨w+1+1,1,none⟩ (.int .i64 C.y) (by first | assumption | (show (w.heap.size+1+1:Nat)≠_;omega)));replace Gb:Box ((wc.setCell ⟨w+1+1,0,none⟩ (.int .i64 C.x)).setCell ⟨w+1+1,1,none⟩ (.int .i64 C.y)) (w.heap.size+1) [q.x,q.y] 26:=((Gb.set_ne ⟨w+1+1,0,none⟩ (.int .i64 C.x) (by first | assumption | (show (w.heap.size+1+1:Nat)≠_;omega))).set_ne ⟨w+1+1,1,none⟩ (.int .i64 C.y) (by first | assumption | (show (w.heap.size+1+1:Nat)≠_;omega)));replace Gc:Box ((wc.setCell ⟨w+1+1,0,none⟩ (.int .i64 C.x)).setCell ⟨w+1+1,1,none⟩ (.int .i64 C.y)) (w.heap.size+1+1) [C.x,C.y] 26:=((Gc.set 0 (.int .i64 C.x)).set 1 (.int .i64 C.y));replace Gd:Box ((wc.setCell ⟨w+1+1,0,none⟩ (.int .i64 C.x)).setCell ⟨w+1+1,1,none⟩ (.int .i64 C.y)) (w.heap.size+1+1+1) [D.x,D.y] 26:=((Gd.set_ne ⟨w+1+1,0,none⟩ (.int .i64 C.x) (by first | assumption | (show (w.heap.size+1+1:Nat)≠_;omega))).set_ne ⟨w+1+1,1,none⟩ (.int .i64 C.y) (by first | assumption | (show (w.heap.size+1+1:Nat)≠_;omega)));generalize ((wc.setCell ⟨w+1+1,0,none⟩ (.int .i64 C.x)).setCell ⟨w+1+1,1,none⟩ (.int .i64 C.y))=wd at *
 replace hw:=hN;clear hN;refine hK _ _ ⟨Ga,Gb,Gc,Gd⟩ ?_;clear hK K;refine FT.flow_at hCl rfl trivial (λwc hwc K hK=>?_);go_simp;replace Ga:=Ga.ee hwc;replace Gb:=Gb.ee hwc;replace Gc:=Gc.ee hwc;replace Gd:=Gd.ee hwc;replace hw:=upB hw hwc;clear hwc;obtain ⟨y0,y1,y2,y3⟩:=Gd.f;go_simp;clear y0 y1 y2 y3;have hN:Below w w ((wc.setCell ⟨w+1+1+1,0,none⟩ (.int .i64 D.x)).setCell ⟨w+1+1+1,1,none⟩ (.int .i64 D.y)):=by have hl:=hw.size;go_grown
 replace Ga:Box ((wc.setCell ⟨w+1+1+1,0,none⟩ (.int .i64 D.x)).setCell ⟨w+1+1+1,1,none⟩ (.int .i64 D.y)) (w.heap.size) [p.x,p.y] 26:=((Ga.set_ne ⟨w+1+1+1,0,none⟩ (.int .i64 D.x) (by first | assumption | (show (w.heap.size+1+1+1:Nat)≠_;omega))).set_ne ⟨w+1+1+1,1,none⟩ (.int .i64 D.y) (by first | assumption | (show (w.heap.size+1+1+1:Nat)≠_;omega)));replace Gb:Box ((wc.setCell ⟨w+1+1+1,0,none⟩ (.int .i64 D.x)).setCell ⟨w+1+1+1,1,none⟩ (.int .i64 D.y)) (w.heap.size+1) [q.x,q.y] 26:=((Gb.set_ne ⟨w+1+1+1,0,none⟩ (.int .i64 D.x) (by first | assumption | (show (w.heap.size+1+1+1:Nat)≠_;omega))).set_ne ⟨w+1+1+1,1,none⟩ (.int .i64 D.y) (by first | assumption | (show (w.heap.size+1+1+1:Nat)≠_;omega)));replace Gc:Box ((wc.setCell ⟨w+1+1+1,0,none⟩ (.int .i64 D.x)).setCell ⟨w+1+1+1,1,none⟩ (.int .i64 D.y)) (w.heap.size+1+1) [C.x,C.y] 26:=((Gc.set_ne ⟨w+1+1+1,0,none⟩ (.int .i64 D.x) (by first | assumption | (show (w.heap.size+1+1+1:Nat)≠_;omega))).set_ne ⟨w+1+1+1,1,none⟩ (.int .i64 D.y) (by first | assumption | (show (w.heap.size+1+1+1:Nat)≠_;omega)));replace Gd:Box ((wc.setCell ⟨w+1+1+1,0,none⟩ (.int .i64 D.x)).setCell ⟨w+1+1+1,1,none⟩ (.int .i64 D.y)) (w.heap.size+1+1+1) [D.x,D.y] 26:=((Gd.set 0 (.int .i64 D.x)).set 1 (.int .i64 D.y));generalize ((wc.setCell ⟨w+1+1+1,0,none⟩ (.int .i64 D.x)).setCell ⟨w+1+1+1,1,none⟩ (.int .i64 D.y))=wd at *
 replace hw:=hN;clear hN;refine hK _ _ ⟨Ga,Gb,Gc,Gd⟩ ?_;clear hK K;clear Ba Bb Bc Bd;intro wz hwz;simp only [dP1,dP0];replace Ga:=Ga.ee hwz;replace Gb:=Gb.ee hwz;replace Gc:=Gc.ee hwz;replace Gd:=Gd.ee hwz;replace hw:=upB hw hwz;clear hwz hCl;have Ba:=Ga;have Bb:=Gb;have Bc:=Gc;have Bd:=Gd;clear Ga Gb Gc Gd;have Fc:=Bc.f;have Fd:=Bd.f;go_wp2;refine bodyPost_ret (v:=.tuple #[C,D,.bool (decide (circ p q C D=1))]) (by simp [results,results134,go_sem,Fc,Fd];rfl) rfl ⟨rfl,by have hl:=hw.size;go_grown⟩
theorem XI (mb b:Nat) (E:Es) (sb:Nat) (a0:Option Addr) (c n:Nat) (Lw:List Wl) (p q:Pt) (hk:okW (p,q)) (w:World) (Bm:Box w mb [.map (some b)] 102) (Hm:Hs w b E) (S:SetRd w sb a0 c n Lw):Calls prog 134 #[pt0 mb,pt0 sb,p,q] w (Rt w (.tuple #[.agg #[.int .i64 (badC E Lw p q).1.x,.int .i64 (badC E Lw p q).1.y],.agg #[.int .i64 (badC E Lw p q).2.x,.int .i64 (badC E Lw p q).2.y],.bool (badP E Lw p q)])):=by
 unfold badP badC;cases h1:lftE E p q with
 | mk X v1=>
  cases h2:lftE E q p with
  | mk Y v2=>
   cases v1 with
   | false=>simpa using fbad_a mb b E sb a0 c n Lw p q hk X Y h1 v2 h2 w Bm Hm S
   | true=>
    cases v2 with
    | false=>simpa using fbad_b mb b E sb a0 c n Lw p q hk X Y h1 h2 w Bm Hm S
    | true=>
     by_cases h3:kindW Lw (lo2 p q) (hi2 p q)=0
     ·simpa [h3] using fbad_d mb b E sb a0 c n Lw p q hk X Y h1 h2 h3 _ _ rfl rfl w Bm Hm S
     ·simpa [h3] using fbad_c mb b E sb a0 c n Lw p q hk X Y h1 h2 h3 w Bm Hm S
def upF (E:Es) (Lw:List Wl) (T:Tri3) (i:Nat):Bool := !decide (0 < cmpP (crn T i) (crn T (i+1))) && badP E Lw (crn T i) (crn T (i+1))
def upW (T:Tri3) (i:Nat):Wl:=mkW (crn T i) (crn T (i+1)) 1
def upL (E:Es) (Lw:List Wl) (T:Tri3) (k:Nat):List Wl:=((List.range k).filter (upF E Lw T)).map (upW T)
theorem ZH (E:Es) (Lw:List Wl) (T:Tri3) (k:Nat):(upL E Lw T k).length<=k:=by
 unfold upL;rw [Qq];exact JQ (Qe _ _) (by simp)
theorem upL_yes {E:Es} {Lw:List Wl} {T:Tri3} {k:Nat} (h:upF E Lw T k=true):upL E Lw T (k+1)=upL E Lw T k ++ [upW T k]:=by
 unfold upL;rw [VA,QV,QA];simp [h]
theorem upL_no {E:Es} {Lw:List Wl} {T:Tri3} {k:Nat} (h:upF E Lw T k=false):upL E Lw T (k+1)=upL E Lw T k:=by
 unfold upL;rw [VA,QV,QA];simp [h]
theorem KL (mb b:Nat) (E:Es) (sb:Nat) (a0:Option Addr) (c n:Nat) (Lw:List Wl) (T:Tri3) (hT:okT T) (w:World) (Bm:Box w mb [.map (some b)] 102) (Hm:Hs w b E) (S:SetRd w sb a0 c n Lw):Calls prog 133 #[pt0 mb,pt0 sb,T] w λe w'=>∃ v,e=.returned v/\WRow w' w.heap.size v (upL E Lw T 3)/\Below w w w':=by
 have HT:=hdd hT;clear hT
 go_enter func133,ntmps133
 go_wp2_with fail;refine zG λW1 hW=>?_;have BT:Box W1 w [T.A.x,T.A.y,T.B.x,T.B.y,T.C.x,T.C.y] 28:=by rw [hW];exact Box.new rfl
 have hw:Below w w W1:=by rw [hW];go_grown
 clear hW
 go_loopw [7,8,13,15,16] (λvl _ _ _ vi wr=>∃ k:Nat,k<=3/\vi=.int .i64 k/\WRow wr (w.heap.size+1) vl (upL E Lw T k)/\Below w w wr/\Box wr w [T.A.x,T.A.y,T.B.x,T.B.y,T.C.x,T.C.y] 28) (λ_ _ _ _ vi _=>3 - (intOf vi).toNat)
 case atStart=>exact ⟨0,by omega,rfl,WRow.nil0 _ _,hw,BT⟩
 case round=>
  clear BT hw;obtain ⟨k,hk,rfl,hown,hwr,BT⟩:=hrel;by_cases hlt:k < 3
  ·have hko:=K6 HT.o (k:Int);have hko2:=K6 HT.o ((k:Int)+1);have HKO:=hdd (show okW (crn T k,crn T ((k:Int)+1)) from ⟨hko,hko2⟩);have ce:=λW=>ZB T (k:Int) W;have hle:(upL E Lw T k).length<=1000000:=JQ (ZH _ _ _ _) (by omega);have hlt3:(k:Int) < 3:=by omega
   have HF:=hdd (show upF E Lw T k=(!decide (0 < cmpP (crn T k) (crn T ((k:Int)+1))) && badP E Lw (crn T k) (crn T ((k:Int)+1))) from rfl);have HU:=hdd (show upW T k=mkW (crn T k) (crn T ((k:Int)+1)) 1 from rfl);have HB:=hdd (show w.heap.size+1<=wr.heap.size from BT.lt);have hw:=Below.refl wr.heap.size wr;generalize crn T (k:Int)=P at *
   generalize crn T ((k:Int)+1)=Q at *
   have cc:=λW=>zn P Q W;have cb:=λW B H D=>XI mb b E sb a0 c n Lw P Q HKO.o W B H D;have cm:=λW=>qt P Q 1 W;clear hko hko2;have FT:=BT.f;go_wp2_with fail;clear FT;refine qC1 (ce _) BT hw λw21 BT hw FT=>?_;go_wp2_with fail;clear FT;refine zI λW22 hW=>?_;obtain ⟨bkP,hbP⟩:∃ b,w21.heap.size=b:=⟨_,rfl⟩;rw [hbP];have lTP:=BT.lt;rw [hbP] at lTP;have fP:=hw.size;rw [hbP] at fP;have BP:Box W22 (bkP) [P.x,P.y] 26:=by rw [hW,<-hbP];exact (Box.new rfl).old _
   have BQ:Box W22 (bkP+1) [Q.x,Q.y] 26:=by rw [hW,<-hbP];exact Box.new (by simp)
   replace BT:Box W22 w [T.A.x,T.A.y,T.B.x,T.B.y,T.C.x,T.C.y] 28:=by rw [hW];exact ((BT).old _).old _
   replace hw:Below wr wr W22:=by have hl:=hw.size;rw [hW];go_grown
   clear hW hbP;refine qK3 (cc _) BT BP BQ hw λw23 BT BP BQ hw=>?_;clear cc ce;cases hc:decide (0 < cmpP P Q)
   case true=>
    have HN:=hdd (upL_no (E:=E) (Lw:=Lw) (T:=T) (k:=k) (by rw [HF.o,hc];rfl));generalize cmpP P Q=z at *
    have hwx:=(upB hwr hw);have FT:=BT.f;have FP:=BP.f;have FQ:=BQ.f;go_wp2;clear FT FP FQ
    go_roundw
    case rel=>exact ⟨k+1,hlt,by go_num,by rw [HN.o];exact hown.ee hw,hwx,BT⟩
    case measure=>simp [intOf];omega
   case false=>
    have HC:=hdd hc;generalize cmpP P Q=z at *
    have Hj:=J3 BT.f BP.f BQ.f;go_wp2_with fail;clear Hj;have hwx:=(upB hwr hw);refine qK3 (cb _ (Bm.ee hwx) (Hm.ee hwx) (S.ee hwx)) BT BP BQ hw λw24 BT BP BQ hw=>?_;clear cb hwx;have HV:=hdd (show upF E Lw T k=badP E Lw P Q by rw [HF.o,HC.o];rfl);generalize badP E Lw P Q=bb at *
    generalize badC E Lw P Q=bc at *
    cases bb
    case false=>
     have HN:=hdd (upL_no (E:=E) (Lw:=Lw) (T:=T) (k:=k) HV.o);have HT9:=BT;have hwx:=(upB hwr hw);have FT:=BT.f;have FP:=BP.f;have FQ:=BQ.f;go_wp2;clear FT FP FQ
     go_roundw
     case rel=>exact ⟨k+1,hlt,by go_num,by rw [HN.o];exact ((hown.ee hw).alloc _).alloc _,by have hl:=hwx.size;go_grown,(HT9.old _).old _⟩
     case measure=>simp [intOf];omega
    case true=>
     have HN:=hdd (upL_yes (E:=E) (Lw:=Lw) (T:=T) (k:=k) HV.o);have sT:(w.heap.size=w24.heap.size+1)=False:=by have:=BT.lt;simp;omega
     have sP:(bkP=w24.heap.size+1)=False:=by have:=BP.lt;simp;omega
     have sQ:(bkP+1=w24.heap.size+1)=False:=by have:=BQ.lt;simp;omega
     have Hj:=J3 BT.f BP.f BQ.f;go_wp2_with fail;clear Hj;clear sT sP sQ;refine zI λW25 hW=>?_;obtain ⟨bkC,hbC⟩:∃ b,w24.heap.size=b:=⟨_,rfl⟩;rw [hbC];have lTC:=BT.lt;rw [hbC] at lTC;have lPC:=BP.lt;rw [hbC] at lPC;have lQC:=BQ.lt;rw [hbC] at lQC;have fC:=hw.size;rw [hbC] at fC;have BC:Box W25 (bkC) [.int .i64 bc.1.x,.int .i64 bc.1.y] 26:=by rw [hW,<-hbC];exact (Box.new rfl).old _
     have BD:Box W25 (bkC+1) [.int .i64 bc.2.x,.int .i64 bc.2.y] 26:=by rw [hW,<-hbC];exact Box.new (by simp)
     replace BT:Box W25 w [T.A.x,T.A.y,T.B.x,T.B.y,T.C.x,T.C.y] 28:=by rw [hW];exact ((BT).old _).old _
     replace BP:Box W25 (bkP) [P.x,P.y] 26:=by rw [hW];exact ((BP).old _).old _
     replace BQ:Box W25 (bkP+1) [Q.x,Q.y] 26:=by rw [hW];exact ((BQ).old _).old _
     replace hw:Below wr wr W25:=by have hl:=hw.size;rw [hW];go_grown
     clear hW hbC;refine qK5 (cm _) BT BP BQ BC BD hw λw26 BT BP BQ BC BD hw=>?_;clear cm;generalize mkW P Q 1=X at *
     generalize mkOk P Q 1=ok at *
     have own:=hdd (hown.ee hw);have hlt0:=λq hq=>(hown.lt q hq).1;have HNE:=hdd (show WRow w26 (w.heap.size+1) u7 (upL E Lw T k) from hown.ee hw);have hwx:=(upB hwr hw);have HBT:=hdd BT;have hs2:=hw.size;have hbw:=HB.o;have HWX:=hdd hwx;clear hown hwr;have FT:=BT.f;have FP:=BP.f;have FQ:=BQ.f;have FC:=BC.f;have FD:=BD.f;go_wp2_with (at_builtin;refine jN rfl _ _ rfl (w.heap.size+1) _ (upL E Lw T k) rfl ((HNE.o.alloc _).alloc _) (w26.heap.size+1) X rfl (Box.new (by simp)) hle (by simp;omega) ?_;intro w4 v4 hown4 hg4 hn4)
     clear FT FP FQ FC FD;have BP4:=((HBT.o.old _).old _).grownBy hg4 (λe=>by have:=hlt0 _ e.symm;omega);have hw4:=((HWX.o.alloc HWX.o.size (.cells #[X.A.x,X.A.y,X.B.x,X.B.y,X.K] 57)).alloc (by simp;have:=HWX.o.size;omega) (.cells #[X.A.x,X.A.y,X.B.x,X.B.y,X.K] 57)).grown hg4 (by simp;have:=HWX.o.size;omega) (λq hq=>by have:=hlt0 q hq;omega);clear hg4 hlt0;go_wp2
     go_roundw
     case rel=>exact ⟨k+1,hlt,by go_num,by rw [HN.o,HU.o];exact hown4,hw4,BP4⟩
     case measure=>simp [intOf];omega
  ·obtain rfl:k=3:=by omega
   go_wp2
   go_ret
   exact ⟨_,rfl,hown.base (Nat.le_succ _),hwr⟩
section
open Go.Lib Go.Shelf
theorem those_ok (mb b:Nat) (E:Es) (g:FuncId) (cb:Array Value) (p:Tri3->Bool) (hE:E.length<=1000000) (hok:∀ e∈E,okT e.2) (w:World) (Bm:Box w mb [.map (some b)] 102) (Hm:Hs w b E) (eg:∀ args w,(callFunc g args).run prog w=.ok (.enter g args) w) (hp:∀ (T:Tri3),okT T->∀ (W:World),Below w w W->Calls prog g (#[.agg #[T.A.x,T.A.y,T.B.x,T.B.y,T.C.x,T.C.y]] ++ cb) W λe w'=>e=.returned (.bool (p T))/\Below W W w'):Calls prog 54 #[pt0 mb,.func (.func g) #[] cb] w λe w'=>∃ a cap,e=.returned (.slice a (srt cmpT (heads p E)).length cap)/\RowAt cT 6 w' a (srt cmpT (heads p E))/\Below w w w':=by
 obtain ⟨xm,ym,zm,vm⟩:=Bm.f
 go_enter func54,ntmps54
 go_wp2_with (at_range;refine yJ _ rfl _ rfl kvM rfl Hm ?_)
 intro w0 HR0 hw0 _;clear xm ym zm vm;go_wp2
 go_loopw [5] (λv wr=>∃ D R:Es,Hi ((D ++ R).Perm E)/\wr.ownsRow w.heap.size 28 6 v (heads p D).length ((heads p D).flatMap cT)/\Ranging eW eT okW wr b w.heap.size E R/\Below w w wr) (λ_ wr=>wr.rangeLeft b w.heap.size)
 case atStart=>exact ⟨[],E,hdd (by simp),World.ownsRow_nil _ _ _ _,HR0,hw0⟩
 case round=>
  clear HR0 hw0;obtain ⟨D,R,hD,hown,HR,hw⟩:=hrel;go_wp2_with (at_next;refine yN _ rfl _ rfl rfl HR ?_ ?_)
  ·intro hR;subst hR;have hp0:(heads p D).Perm (heads p E):=xZ (by simpa using hD.o);have hle:(heads p D).length<=3000000:=by have:=hp0.length_eq;have:=yc p E;omega
   have HS:=hdd (wholeT.srt_of_perm hp0);go_wp2_with fail;refine (vw _ _ _ hle _ hown).mono ?_;rintro e w2 ⟨rfl,hg2,a,cap,rfl,hr⟩;go_wp2
   go_ret
   have hlen:(heads p D).length=(srt cmpT (heads p E)).length:=by rw [<-HS.o];exact (zS _).length_eq.symm
   rw [HS.o] at hr;refine ⟨a,cap,by rw [hlen];rfl,hr,hw.grown hg2 hw.size (λk hk=>?_)⟩;exact (hown.lt k hk).1
  ·intro u x T R' w1 hperm HR1 hg1 hs1 hen;have hD2:=hdd (show ((D ++ [((u,x),T)]) ++ R').Perm E by have:=(hperm.append_left D).symm.trans hD.o;simpa using this);have own1:=hown.kept hg1 (.inr (λe=>zv hown HR e.symm));have hw1:=hw.grown hg1 hw.size (λk hk=>by cases hk;exact JA _);have HL:=hdd (show w1.rangeLeft b w.heap.size < wr.rangeLeft b w.heap.size by rw [zT HR1,zT HR,hperm.length_eq];simp);have hen2:(Instr.entry (.pointer (some ⟨w,0,none⟩))).run prog w1=.ok (.tuple #[.agg #[u.x,u.y,x.x,x.y],T]) w1:=hen;have hle:(heads p D).length<=1000000:=by have:=hD2.o.length_eq;have:=yc p D;simp at *;omega
   clear hown HR hg1 hs1 hen hperm hw;have hnx:Hi (∀ W:World,Below w1 w1 W->(W.rangeLeft b w.heap.size < wr.rangeLeft b w.heap.size)):=hdd (λW hW=>by
    rw [zT (HR1.ee hW),<-zT HR1];exact HL.o)
   have HTK:=hdd (show okT T from hok _ (hD2.o.mem_iff.1 (by simp):((u,x),T)∈E));by_cases hA:u=T.A
   ·have hd:peqI u.x u.y T.A.x T.A.y=true:=yw.2 hA;cases hT:p T with
    | false=>
     have HH:=hdd (show heads p (D ++ [((u,x),T)])=heads p D by rw [zp,qw (by simp [hT])];simp);have cp:=λW hW=>hp T HTK.o W hW;rw [hT] at cp;clear hA hT;go_wp2_with fail;refine zI λW2 hW=>?_;have hb2:Below w1 w1 W2:=by rw [hW];go_grown
     clear hW;refine (cp _ ((upB hw1 hb2))).mono ?_;rintro e w3 ⟨rfl,hb⟩;have hb3:=(upB hb2 hb);clear hb hb2;go_wp2
     go_roundw
     case rel=>exact ⟨D ++ [((u,x),T)],R',hD2,by rw [HH.o];exact own1.kept (zM hb3 none) (by cases u5.ownBlock <;> simp),HR1.ee hb3,(upB hw1 hb3)⟩
     case measure=>exact hnx.o _ hb3
    | true=>
     have HH:=hdd (show heads p (D ++ [((u,x),T)])=heads p D ++ [T] by rw [zp,jG hA hT]);have cp:=λW hW=>hp T HTK.o W hW;rw [hT] at cp;clear hA hT;go_wp2_with fail;refine zI λW2 hW=>?_;have hb2:Below w1 w1 W2:=by rw [hW];go_grown
     have Bt:Box W2 (w1+1) (cT T) 28:=by rw [hW];exact Box.new (by simp)
     clear hW;refine (cp _ ((upB hw1 hb2))).mono ?_;rintro e w3 ⟨rfl,hb⟩;have hb3:=(upB hb2 hb);replace Bt:=Bt.ee hb;have own3:=own1.kept (zM hb3 none) (by cases u5.ownBlock <;> simp);have HB:=hdd (JQ hw1.size hb3.size);clear hb hb2;obtain ⟨xt,yt,zt,vt⟩:=Bt.f;unfold cT at xt;go_wp2_with (at_builtin;refine yI rfl _ _ rfl w.heap.size _ (heads p D) rfl (own3.alloc _) w3.heap.size T rfl (Box.new rfl) hle (by have:=HB.o;simp;omega) ?_;intro w4 v4 hown4 hg4)
     have hR3:=(HR1.ee hb3).kept (World.grownBy_alloc w3 (.cells (cT T).toArray 28) none) (by simp) (by simp);have hR4:=hR3.kept hg4 (yF (own3.alloc _) hR3.holds) (zv (own3.alloc _) hR3);have hw4:=((((upB hw1 hb3)).alloc (by have:=HB.o;omega) (.cells (cT T).toArray 28))).grown hg4 (by have:=HB.o;simp;omega) (λk hk=>((own3.alloc (.cells (cT T).toArray 28)).lt k hk).1)
     go_roundw
     case rel=>exact ⟨D ++ [((u,x),T)],R',hD2,by rw [HH.o];exact hown4,hR4,hw4⟩
     case measure=>rw [zT hR4,<-zT HR1];exact HL.o
   ·have hd:peqI u.x u.y T.A.x T.A.y=false:=by rw [<-QF,yw];exact hA
    have HH:=hdd (show heads p (D ++ [((u,x),T)])=heads p D by rw [zp,qw (by simp [hA])];simp);clear hA;go_wp2
    go_roundw
    case rel=>exact ⟨D ++ [((u,x),T)],R',hD2,by rw [HH.o];exact (own1.alloc _).alloc _,HR1.ext (by go_grown) rfl,by have:=hw1.size;go_grown⟩
    case measure=>exact hnx.o _ (by go_grown)
theorem fbadcl_any (mb b:Nat) (E:Es) (sb:Nat) (a0:Option Addr) (c n:Nat) (Lw:List Wl) (b2 b3:Nat) (T:Tri3) (hT:okT T) (w:World) (B2:Box w b2 [pt0 mb] 31) (B3:Box w b3 [pt0 sb] 32) (Bm:Box w mb [.map (some b)] 102) (Hm:Hs w b E) (S:SetRd w sb a0 c n Lw):Calls prog 132 (#[.agg #[T.A.x,T.A.y,T.B.x,T.B.y,T.C.x,T.C.y]] ++ #[.pointer (some ⟨b2,0,none⟩),.pointer (some ⟨b3,0,none⟩)]) w (Rt w (.bool (decide (0 < (upL E Lw T 3).length)))):=by
 have cu:=λW B H D=>KL mb b E sb a0 c n Lw T hT W B H D;have hle:=ZH E Lw T 3;clear hT;generalize upL E Lw T 3=U at *
 show Calls prog 132 #[T,pt0 b2,pt0 b3] w _
 go_enter func132,ntmps132
 have RZ:=J2 B2.f B3.f;go_wp2_with fail;clear RZ;refine zI λW1 hW=>?_;have hw:Below w w W1:=by rw [hW];go_grown
 clear hW;refine (cu _ (Bm.ee hw) (Hm.ee hw) (S.ee hw)).mono ?_;rintro e w2 ⟨v,rfl,hr,hb⟩;replace hw:=upB hw hb;obtain ⟨a,cap,rfl,_,_⟩:=hr.row;clear hb hr cu;obtain ⟨m,hm⟩:∃ m,U.length=m:=⟨_,rfl⟩;rw [hm] at hle;cases hz:decide (0 < m) with
 | true=>
  have hz2:decide ((0:Int) < (m:Int))=true:=by simpa using hz
  go_wp2;refine bodyPost_ret (v:=.bool true) (by simp [results,results132,go_sem]) rfl ⟨by rw [hm,hz],hw⟩
 | false=>
  have hz2:decide ((0:Int) < (m:Int))=false:=by simpa using hz
  go_wp2;refine bodyPost_ret (v:=.bool false) (by simp [results,results132,go_sem]) rfl ⟨by rw [hm,hz],hw⟩
end
section
open Go.Lib Go.Shelf
def bigT (E:Es) (Lw:List Wl):List Tri3:=srt cmpT (heads (λT=>decide (0 < (upL E Lw T 3).length)) E)
def FB (E:Es) (Lw:List Wl):List Wl:=srt cmpW ((bigT E Lw).flatMap λT=>upL E Lw T 3)
theorem heads_in {p:Tri3->Bool} {E:Es} {T:Tri3} (h:T∈heads p E):p T=true/\∃ x,((T.A,x),T)∈E:=by
 unfold heads at h;obtain ⟨⟨⟨u,x⟩,S⟩,he,rfl⟩:=JN.1 h;obtain ⟨he,hc⟩:=JS.1 he;simp only [Ko,Kn] at hc;exact ⟨hc.2,x,by rw [<-hc.1];exact he⟩
theorem append_wrow {w:World} {ops:Array Oper} {rest:List Oper} {o:Oper} {a:Act} {Q:Exit->Act->World->Prop} (hgd:o.guard=none) (s x:Operand) (ho:o.op=.call { callee:=.builtin .append,args:=#[s,x],argTypes:=#[48,48] }) (B:Nat) (v:Value) (L:List Wl) (hs:a.eval s=v) (hown:WRow w B v L) (bx cap:Nat) (U:List Wl) (hx:a.eval x=.slice (some ⟨bx,0,none⟩) U.length cap) (hU:RowAt cW 5 w (some ⟨bx,0,none⟩) U) (hu0:U.length<=1000) (hn:L.length<=1000000) (hbase:B<=w.heap.size) (h:∀ w' v',WRow w' B v' (L ++ U)->w.grownBy w' v.ownBlock->wpList prog ops Q rest (a.put o.dst v') w'):wpList prog ops Q (o :: rest) a w:=by
 obtain ⟨i0,hi,hz0,hz1,hz2⟩:=info_parts xR;refine wpList_append_own w hgd s x 48 ho B 57 i0 _ 5 40 underlying48 hi hz0 hz1 hz2 rfl (by decide) v L.length _ hs hown ⟨bx,0,none⟩ U.length cap (U.flatMap cW) hx (zR yR U) ?_ ?_ ?_ ?_ hbase ?_
 ·intro j u hj;rw [Addr.add_lit,Q9];have:=(hU.flat j u hj).2
  rwa [Q9] at this
 ·intro u hu;obtain ⟨X,_,hX⟩:=JH.1 hu;exact j0 X u hX
 ·unfold maxLen;omega
 ·omega
 ·intro v' w' hown' hg _;refine h w' v' ?_ hg;unfold WRow;rw [Kp,JW];exact hown'
theorem enterBad:∀ args w,(callFunc 132 args).run prog w=.ok (.enter 132 args) w:=enters_of func132 (by kernel_rfl) rfl
theorem flat_take {L:List Tri3} {f:Tri3->List Wl} {k:Nat} (hk:k < L.length):(L.take (k+1)).flatMap f=(L.take k).flatMap f ++ f L[k]:=by
 rw [JD hk,JW];simp
theorem Zu (E:Es) (Lw:List Wl):∀ L:List Tri3,(L.flatMap λT=>upL E Lw T 3).length<=3 * L.length
 | []=>by simp
 | T :: L=>by
  have h1:=ZH E Lw T 3;have h2:=Zu E Lw L;rw [Ks,Kp,JO];omega
theorem fBad_any (mb b:Nat) (E:Es) (sb:Nat) (a0:Option Addr) (c n:Nat) (Lw:List Wl) (hE:E.length<=90000) (hok:∀ e∈E,okT e.2) (w:World) (Bm:Box w mb [.map (some b)] 102) (Hm:Hs w b E) (S:SetRd w sb a0 c n Lw):Calls prog 86 #[pt0 mb,pt0 sb] w λe w'=>∃ v,e=.returned v/\WRow w' w.heap.size v (FB E Lw)/\Below w w w':=by
 have HOK:=hdd (show ∀ T∈bigT E Lw,okT T/\0 < (upL E Lw T 3).length from λT hT=>by
  obtain ⟨k1,x,k2⟩:=heads_in ((zS _).mem_iff.1 hT);exact ⟨hok _ k2,by simpa using k1⟩)
 have hlen:(bigT E Lw).length<=90000:=by
  unfold bigT;rw [(zS _).length_eq];exact JQ (yc _ _) hE
 have HFB:=hdd (show FB E Lw=srt cmpW ((bigT E Lw).flatMap λT=>upL E Lw T 3) from rfl);have ct:=λW1 (hW1:Below w w W1) (b2 b3:Nat) (B2:Box W1 b2 [pt0 mb] 31) (B3:Box W1 b3 [pt0 sb] 32)=>those_ok mb b E 132 #[pt0 b2,pt0 b3] (λT=>decide (0 < (upL E Lw T 3).length)) (by omega) hok W1 (Bm.ee hW1) (Hm.ee hW1) enterBad (λT hT W hW=>fbadcl_any mb b E sb a0 c n Lw b2 b3 T hT W (B2.ee hW) (B3.ee hW) ((Bm.ee hW1).ee hW) ((Hm.ee hW1).ee hW) ((S.ee hW1).ee hW))
 change ∀ W1 (hW1:Below w w W1) (b2 b3:Nat) (B2:Box W1 b2 [pt0 mb] 31) (B3:Box W1 b3 [pt0 sb] 32),Calls _ _ _ _ (λe w'=>∃ a cap,e=.returned (.slice a (bigT E Lw).length cap)/\RowAt cT 6 w' a (bigT E Lw)/\Below W1 W1 w') at ct
 generalize bigT E Lw=L at *
 generalize FB E Lw=F at *
 obtain ⟨m,hm⟩:∃ m,L.length=m:=⟨_,rfl⟩;rw [hm] at ct hlen;have HM:=hdd hm;clear hok hE hm
 go_enter func86,ntmps86
 go_wp2_with fail;refine zI λW1 hW=>?_;have B2:Box W1 w [pt0 mb] 31:=by rw [hW];exact (Box.new rfl).old _
 have B3:Box W1 (w+1) [pt0 sb] 32:=by rw [hW];exact Box.new (by simp)
 have hw:Below w w W1:=by rw [hW];go_grown
 clear hW;refine (ct _ hw _ _ B2 B3).mono ?_;rintro e w2 ⟨a,cap,rfl,hr,hb⟩;obtain ⟨B2,B3,hw,-⟩:=qX2 B2 B3 hw hb;clear hb ct;go_wp2_with fail
 go_loopw [6,14] (λvl vi wr=>∃ k:Nat,k<=m/\vi=.int .i64 k/\WRow wr w2.heap.size vl ((L.take k).flatMap λT=>upL E Lw T 3)/\Below w2 w2 wr) (λ_ vi _=>m - (intOf vi).toNat)
 case atStart=>exact ⟨0,JZ _,rfl,by simpa using WRow.nil0 _ _,Below.refl _ _⟩
 case round=>
  obtain ⟨k,hk,rfl,hown,hwr⟩:=hrel;by_cases hlt:k < m
  ·have hkL:k < L.length:=by rw [HM.o];exact hlt
   obtain ⟨ad,A,ea,eA,hA⟩:=(hr.ee hwr).six (j:=k) hkL;have HF:=hdd (flat_take (f:=λT=>upL E Lw T 3) hkL);have hle:((L.take k).flatMap λT=>upL E Lw T 3).length<=1000000:=JQ (Zu E Lw _) (by rw [JV];omega);obtain ⟨hokT,hpos⟩:=HOK.o _ (JP hkL);have hpos:=hdd hpos;generalize L[k]=T at *
   have cu:=λW B H D=>KL mb b E sb a0 c n Lw T hokT W B H D;have hu3:=ZH E Lw T 3;generalize upL E Lw T 3=U at *
   have hwx:=(upB hw hwr);obtain ⟨t6,t0,t1,t2,t3,t4,t5⟩:=hA.f;obtain ⟨x2,y2,z2,v2⟩:=(B2.ee hwr).f;obtain ⟨x3,y3,z3,v3⟩:=(B3.ee hwr).f;subst ea;go_wp2_with fail;clear t6 t0 t1 t2 t3 t4 t5 x2 y2 z2 v2 x3 y3 z3 v3 hA;refine zI λW4 hW=>?_;have h4:Below wr wr W4:=by rw [hW];go_grown
   clear hW;refine (cu _ ((Bm.ee hwx).ee h4) ((Hm.ee hwx).ee h4) ((S.ee hwx).ee h4)).mono ?_;rintro e w5 ⟨v5,rfl,hr5,hb5⟩;have h5:=(upB h4 hb5);obtain ⟨a5,cap5,rfl,ra5,fl5⟩:=hr5.row;obtain ⟨bb,hbb⟩:∃ bb,a5=some ⟨bb,0,none⟩:=by
    rcases hr5.2 with ⟨h0,h1⟩ | ⟨g,cap',cur,h0,_⟩
    ·have:=hpos.o;omega
    ·simp only [Value.slice.injEq] at h0;exact ⟨g,h0.1⟩
   subst hbb;have hown5:=hown.ee h5;have hlt0:=λq hq=>(hown.lt q hq).1;have hs5:=h5.size;have hsr:=hwr.size;have hwr5:=(upB hwr h5);clear cu h4 hb5 hr5 fl5 hown h5;go_wp2_with (at_builtin;refine append_wrow rfl _ _ rfl w2.heap.size _ _ rfl hown5 bb cap5 U rfl ra5 (by omega) hle (by omega) ?_;intro w6 v6 hown6 hg6)
   have hw6:=hwr5.grown hg6 hwr5.size (λq hq=>by have:=hlt0 q hq;omega);clear hg6 hlt0 hwr5 hown5;go_wp2
   go_roundw
   case rel=>exact ⟨k+1,hlt,by go_num,by rw [HF.o];exact hown6,hw6⟩
   case measure=>simp [intOf];omega
  ·obtain rfl:k=m:=by omega
   rw [JM (by rw [HM.o];omega)] at hown;have hle:(L.flatMap λT=>upL E Lw T 3).length<=3000000:=JQ (Zu E Lw _) (by rw [HM.o];omega);have hwx:=(upB hw hwr);go_wp2_with fail;refine (ZP _ _ _ hle _ hown).mono ?_;rintro e w7 ⟨rfl,hg7,hr7⟩;have hlt0:=λq hq=>(hown.lt q hq).1;have hs2:=hw.size;have hw7:=hwx.grown hg7 hwx.size (λq hq=>by have:=hlt0 q hq;omega);go_wp2
   go_ret
   exact ⟨_,rfl,by rw [HFB.o];exact hr7.base hs2,hw7⟩
end
def P4 (a b c d:Pt) (x y z v:Int):Int:=det d b c * x+det a d c * y+det a b d * z - det a b c * v
theorem P4_cyc (a b c d:Pt) (x y z v:Int):P4 b c a d y z x v=P4 a b c d x y z v:=by
 unfold P4;have e1:det d c a=det a d c:=by unfold det;grind
 have e2:det b d a=det a b d:=by unfold det;grind
 have e3:det b c d=det d b c:=by unfold det;grind
 have e4:det b c a=det a b c:=zW a b c;rw [e1,e2,e3,e4];omega
def mid (a b:Pt) (s t:Int):Pt:=⟨s * a.x+t * b.x,s * a.y+t * b.y⟩
theorem Yn (a b:Pt) (s t:Int):mid b a t s=mid a b s t:=by unfold mid;rw [UA,UA (t * b.y)]
def low (h:Pt->Int) (M s t:Int) (a b:Pt) (T:Tri3):Prop:=P4 (sc M T.A) (sc M T.B) (sc M T.C) (mid a b s t) (M * h T.A) (M * h T.B) (M * h T.C) (s * h a+t * h b) < 0
theorem ky {h:Pt->Int} {M s t:Int} {a b x y z:Pt} {T:Tri3} (hc:Cyc T x y z):low h M s t a b T↔P4 (sc M x) (sc M y) (sc M z) (mid a b s t) (M * h x) (M * h y) (M * h z) (s * h a+t * h b) < 0:=by
 unfold low;rcases hc with ⟨rfl,rfl,rfl⟩ | ⟨rfl,rfl,rfl⟩ | ⟨rfl,rfl,rfl⟩
 ·exact UC
 ·rw [P4_cyc (sc M T.A) (sc M T.B) (sc M T.C)]
 ·rw [P4_cyc (sc M T.C) (sc M T.A) (sc M T.B)]
def dead (h:Pt->Int) (L:List Tri3) (a b:Pt):Prop:=∃ s t:Int,0 < s/\0 < t/\∃ T∈L,hasM (s+t) T (mid a b s t)/\low h (s+t) s t a b T
theorem near3_add {M N:Int} {a b c p v u:Pt} (hN:0<=N) (h:near3 M a b c p v) (h1:det (sc M a) (sc M b) p=0->0<=crd a b u) (h2:det (sc M b) (sc M c) p=0->0<=crd b c u) (h3:det (sc M c) (sc M a) p=0->0<=crd c a u):near3 M a b c p ⟨v.x+N * u.x,v.y+N * u.y⟩:=by
 have key:∀ x y:Pt,crd x y ⟨v.x+N * u.x,v.y+N * u.y⟩=crd x y v+N * crd x y u:=λx y=>by unfold crd;grind
 have one:∀ x y:Pt,(0 < det (sc M x) (sc M y) p\/(det (sc M x) (sc M y) p=0/\0 < crd x y v))->(det (sc M x) (sc M y) p=0->0<=crd x y u)->(0 < det (sc M x) (sc M y) p\/(det (sc M x) (sc M y) p=0/\0 < crd x y ⟨v.x+N * u.x,v.y+N * u.y⟩)):=by
  intro x y k1 k2;rcases k1 with k | ⟨k,k3⟩
  ·exact .inl k
  ·refine .inr ⟨k,?_⟩;have:=Kr hN (k2 k);rw [key];omega
 exact ⟨one _ _ h.1 h1,one _ _ h.2.1 h2,one _ _ h.2.2 h3⟩
theorem sc_crd (M:Int) (x y p q:Pt):det (sc M x) (sc M y) (sc M q)=det (sc M x) (sc M y) p+M * crd x y ⟨M * q.x - p.x,M * q.y - p.y⟩:=by unfold det sc crd;grind
section
variable {W H:Int} {L:List Tri3} (t:Tiles W H L) {h:Pt->Int}
include t
theorem Tiles.alive_left {a b q:Pt} {s r:Int} (hs:0 < s) (hr:0 < r) (hm:(a,b)∈L.flatMap ways) {T:Tri3} (hT:T∈L) (hq:isCnr T q) (h1:0 < det a b q) (h2:hasM (s+r) T (mid a b s r)) (h3:low h (s+r) s r a b T):False:=by
 obtain ⟨X,hX,c,cX,pX⟩:=t.way_of hm;obtain ⟨M,eM⟩:∃ M,s+r=M:=⟨_,rfl⟩;have hM:0 < M:=by omega
 obtain ⟨m,em⟩:∃ m,mid a b s r=m:=⟨_,rfl⟩;have e1:det (sc M a) (sc M b) m=0:=by rw [<-em,<-eM];unfold det sc mid;grind
 have e2:det (sc M b) (sc M c) m=M * (s * det a b c):=by rw [<-em,<-eM];unfold det sc mid;grind
 have e3:det (sc M c) (sc M a) m=M * (r * det a b c):=by rw [<-em,<-eM];unfold det sc mid;grind
 rw [eM,em] at h2;rw [eM] at h3;have pT:=t.pos T hT;have n0:=uL hM pT h2;obtain ⟨v0,ev0⟩:∃ v0:Pt,(⟨M * (T.A.x+T.B.x+T.C.x) - 3 * m.x,M * (T.A.y+T.B.y+T.C.y) - 3 * m.y⟩:Pt)=v0:=⟨_,rfl⟩;rw [ev0] at n0;obtain ⟨u,eu⟩:∃ u:Pt,(⟨M * q.x - m.x,M * q.y - m.y⟩:Pt)=u:=⟨_,rfl⟩;have sgn2:∀ x y:Pt,0<=det x y q->det (sc M x) (sc M y) m=0->0<=crd x y u:=by
  intro x y k1 k2;have k3:=sc_crd M x y m q;rw [eu,k2,Xj,Vg] at k3;have k4:=Kr (JT hM) k1;have k5:M * det x y q=crd x y u:=Int.eq_of_mul_eq_mul_left (by omega) k3;omega
 obtain ⟨N,eN⟩:∃ N:Int,((crd a b v0).natAbs:Int)+1=N:=⟨_,rfl⟩;have hN:0<=N:=by omega
 have hcA:0<=det T.A T.B q/\0<=det T.B T.C q/\0<=det T.C T.A q:=(Y6 pT hq).1;have n1:near M T m ⟨v0.x+N * u.x,v0.y+N * u.y⟩:=near3_add hN n0 (sgn2 _ _ hcA.1) (sgn2 _ _ hcA.2.1) (sgn2 _ _ hcA.2.2);have hcu:0 < crd a b u:=by
  have k3:=sc_crd M a b m q;rw [eu,e1,Xj,Vg] at k3;have k5:M * det a b q=crd a b u:=Int.eq_of_mul_eq_mul_left (by omega) k3;have:=JI hM h1;omega
 have hcv:0 < crd a b ⟨v0.x+N * u.x,v0.y+N * u.y⟩:=by
  have e:crd a b ⟨v0.x+N * u.x,v0.y+N * u.y⟩=crd a b v0+N * crd a b u:=by unfold crd;grind
  have k:N<=N * crd a b u:=by
   have:=Q8 (show 1<=crd a b u by omega) hN;omega
  omega
 have n2:near M X m ⟨v0.x+N * u.x,v0.y+N * u.y⟩:=cX.near ⟨.inr ⟨e1,hcv⟩,.inl (by rw [e2];exact JI hM (JI hs pX)),.inl (by rw [e3];exact JI hM (JI hr pX))⟩;have e:=t.same hX hT hM n2 n1;subst e;rw [ky cX] at h3;have z:P4 (sc M a) (sc M b) (sc M c) (mid a b s r) (M * h a) (M * h b) (M * h c) (s * h a+r * h b)=0:=by
  rw [<-eM];generalize h a=x
  generalize h b=y
  generalize h c=z
  unfold P4 det sc mid;grind
 rw [z] at h3;omega
theorem Tiles.not_dead {a b:Pt} (he:edgeL L a b):¬ dead h L a b:=by
 rintro ⟨s,r,hs,hr,T,hT,h2,h3⟩;obtain ⟨⟨ba,bb⟩,_,nab⟩:=t.edge_box he;have main:∀ {a b q:Pt} {s r:Int},edgeL L a b->0 < s->0 < r->isCnr T q->0 < det a b q->hasM (s+r) T (mid a b s r)->low h (s+r) s r a b T->False:=by
  intro a b q s r he hs hr hq hd h2 h3;rcases he with he | he
  ·exact t.alive_left hs hr he hT hq hd h2 h3
  ·rcases t.rim _ he with k | k
   ·exact t.alive_left hs hr k hT hq hd h2 h3
   ·obtain ⟨X,hX,c,cX,pX⟩:=t.way_of he;obtain ⟨y,z,k2⟩:=qo hq;have k3:0<=det b a q:=uE k pX (t.cyc_box hX cX.turn.turn) (t.cyc_box hT k2);have e:=zV a b q;omega
 have nz:∃ q,isCnr T q/\det a b q≠0:=by
  refine QD λhn=>?_;have z:∀ q,isCnr T q->det a b q=0:=λq hq=>QD λk=>hn ⟨q,hq,k⟩;have zA:=z T.A (.inl rfl);have zB:=z T.B (.inr (.inl rfl));have zC:=z T.C (.inr (.inr rfl));have e:∀ x:Pt,crd a b ⟨x.x - T.A.x,x.y - T.A.y⟩=det a b x - det a b T.A:=λx=>by unfold crd det;grind
  exact tz nab (t.pos T hT) (by rw [e];omega) (by rw [e];omega)
 obtain ⟨q,hq,hd⟩:=nz;by_cases hp:0 < det a b q
 ·exact main he hs hr hq hp h2 h3
 ·refine main he.turn hr hs hq (by have:=zV a b q;omega) ?_ ?_
  ·rw [Yn,UA];exact h2
  ·unfold low at *;rw [Yn,UA r s,UA (r * h b)];exact h3
end
theorem KH {h:Pt->Int} {p q c d:Pt} (hS:0 < det p q c) (hR:0 < det q p d) (hU:0 < det c p d) (hV:0 < det d q c) (hP:0 < PH h p q c d) {M v:Int} {m:Pt} (hM:0 < M) (m1:0<=det (sc M p) (sc M q) m) (m2:0<=det (sc M q) (sc M c) m) (m3:0<=det (sc M c) (sc M p) m) (hl:P4 (sc M p) (sc M q) (sc M c) m (M * h p) (M * h q) (M * h c) v < 0):((0<=det (sc M c) (sc M p) m/\0<=det (sc M p) (sc M d) m/\0<=det (sc M d) (sc M c) m)/\P4 (sc M c) (sc M p) (sc M d) m (M * h c) (M * h p) (M * h d) v < 0)\/((0<=det (sc M d) (sc M q) m/\0<=det (sc M q) (sc M c) m/\0<=det (sc M c) (sc M d) m)/\P4 (sc M d) (sc M q) (sc M c) m (M * h d) (M * h q) (M * h c) v < 0):=by
 by_cases hd:0<=det (sc M d) (sc M c) m
 ·refine .inl ⟨⟨m3,?_,hd⟩,?_⟩
  ·refine (zd hS).1 ?_;have e:det p q c * det (sc M p) (sc M d) m=det (sc M c) (sc M p) m * det q p d+det (sc M p) (sc M q) m * det c p d:=by unfold det sc;grind
   rw [e];exact UF (Kr m3 (JT hR)) (Kr m1 (JT hU))
  ·refine (yP hS).1 ?_;have e:det p q c * P4 (sc M c) (sc M p) (sc M d) m (M * h c) (M * h p) (M * h d) v=det c p d * P4 (sc M p) (sc M q) (sc M c) m (M * h p) (M * h q) (M * h c) v - M * (PH h p q c d * det (sc M c) (sc M p) m):=by
    unfold PH;generalize h p=x
    generalize h q=y
    generalize h c=z
    generalize h d=w
    unfold P4 det sc;grind
   have k1:=(yP hU).2 hl;have k2:=Kr (JT hM) (Kr (JT hP) m3);omega
 ·have hd2:0<=det (sc M c) (sc M d) m:=by have:=zV (sc M d) (sc M c) m;omega
  refine .inr ⟨⟨?_,m2,hd2⟩,?_⟩
  ·refine (zd hS).1 ?_;have e:det p q c * det (sc M d) (sc M q) m=det (sc M q) (sc M c) m * det q p d+det (sc M p) (sc M q) m * det d q c:=by unfold det sc;grind
   rw [e];exact UF (Kr m2 (JT hR)) (Kr m1 (JT hV))
  ·refine (yP hS).1 ?_;have e:det p q c * P4 (sc M d) (sc M q) (sc M c) m (M * h d) (M * h q) (M * h c) v=det d q c * P4 (sc M p) (sc M q) (sc M c) m (M * h p) (M * h q) (M * h c) v - M * (PH h p q c d * det (sc M q) (sc M c) m):=by
    unfold PH;generalize h p=x
    generalize h q=y
    generalize h c=z
    generalize h d=w
    unfold P4 det sc;grind
   have k1:=(yP hV).2 hl;have k2:=Kr (JT hM) (Kr (JT hP) m2);omega
theorem KX (h:Pt->Int) (p q c d:Pt):PH h q p d c=PH h p q c d:=by
 unfold PH;generalize h p=x
 generalize h q=y
 generalize h c=z
 generalize h d=w
 unfold det;grind
theorem dead_flip {h:Pt->Int} {L L':List Tri3} {S R U V:Tri3} {p q c d:Pt} (hk:∀ T∈L,T≠S->T≠R->T∈L') (hU:U∈L') (hV:V∈L') (cS:Cyc S p q c) (cR:Cyc R q p d) (cU:Cyc U c p d) (cV:Cyc V d q c) (dS:0 < det p q c) (dR:0 < det q p d) (dU:0 < det c p d) (dV:0 < det d q c) (hP:0 < PH h p q c d) {a b:Pt} (hd:dead h L a b):dead h L' a b:=by
 obtain ⟨s,r,hs,hr,T,hT,h2,h3⟩:=hd;have hM:0 < s+r:=by omega
 by_cases e1:T=S
 ·subst e1;rw [xU cS] at h2;rw [ky cS] at h3;rcases KH dS dR dU dV hP hM h2.1 h2.2.1 h2.2.2 h3 with ⟨k1,k2⟩ | ⟨k1,k2⟩
  ·exact ⟨s,r,hs,hr,U,hU,(xU cU).2 k1,(ky cU).2 k2⟩
  ·exact ⟨s,r,hs,hr,V,hV,(xU cV).2 k1,(ky cV).2 k2⟩
 ·by_cases e2:T=R
  ·subst e2;rw [xU cR] at h2;rw [ky cR] at h3;rcases KH dR dS dV dU (by rw [KX];exact hP) hM h2.1 h2.2.1 h2.2.2 h3 with ⟨k1,k2⟩ | ⟨k1,k2⟩
   ·exact ⟨s,r,hs,hr,V,hV,(xU cV).2 k1,(ky cV).2 k2⟩
   ·exact ⟨s,r,hs,hr,U,hU,(xU cU).2 k1,(ky cU).2 k2⟩
  ·exact ⟨s,r,hs,hr,T,hk T hT e1 e2,h2,h3⟩
theorem det_mid (p q c d:Pt) (s t:Int):det (sc (s+t) d) (sc (s+t) c) (mid p q s t)=(s+t) * (s * det c p d - t * det d q c):=by unfold det sc mid;grind
theorem P4_mid (p q c d:Pt) (s t x y z w:Int):P4 (sc (s+t) c) (sc (s+t) p) (sc (s+t) d) (mid p q s t) ((s+t) * z) ((s+t) * x) ((s+t) * w) (s * x+t * y) = -((s+t) * ((s+t) * (t * P4 p q c d x y z w))):=by unfold P4 det sc mid;grind
theorem dead_new {h:Pt->Int} {L':List Tri3} {U:Tri3} {p q c d:Pt} (hU:U∈L') (cU:Cyc U c p d) (dS:0 < det p q c) (dR:0 < det q p d) (dU:0 < det c p d) (dV:0 < det d q c) (hP:0 < PH h p q c d):dead h L' p q:=by
 have hM:0 < det d q c+det c p d:=by omega
 have g1:∀ s t:Int,det (sc (s+t) c) (sc (s+t) p) (mid p q s t)=(s+t) * (t * det p q c):=λs t=>by unfold det sc mid;grind
 have g2:∀ s t:Int,det (sc (s+t) p) (sc (s+t) d) (mid p q s t)=(s+t) * (t * det q p d):=λs t=>by unfold det sc mid;grind
 refine ⟨det d q c,det c p d,dV,dU,U,hU,(xU cU).2 ⟨?_,?_,?_⟩,(ky cU).2 ?_⟩
 ·rw [g1];exact Kr (JT hM) (Kr (JT dU) (JT dS))
 ·rw [g2];exact Kr (JT hM) (Kr (JT dU) (JT dR))
 ·rw [det_mid,VM (det d q c) (det c p d),V7,Jd];exact Vf _
 ·rw [P4_mid];have hP':0 < P4 p q c d (h p) (h q) (h c) (h d):=hP;have:=JI hM (JI hM (JI dU hP'));omega
attribute [local go_sem 10000] run_upto_tri
theorem ZT {w:World} {a:Option Addr} {L:List Tri3} (h:RowAt cT 6 w a L) (k:Nat):RowAt cT 6 w a (L.take k):=λj x hx=>by
 refine h j x ?_;rw [QP] at hx;split at hx
 ·exact hx
 ·cases hx
theorem ur:∀ (L:List Tri3) (E:Es),(takeRun E L).1<=L.length
 | [],_=>JA _
 | T :: L,E=>by
  unfold takeRun;split
  ·have:=ur L (takeT E T);simp only [JO];omega
  ·exact JZ _
theorem uz:∀ (L:List Tri3) (E:Es),(putRun E L).1<=L.length
 | [],_=>JA _
 | T :: L,E=>by
  unfold putRun;split
  ·have:=uz L (putT E T);simp only [JO];omega
  ·exact JZ _
theorem replace_none (mb b:Nat) (E:Es) (a1 a2:Option Addr) (cap1 cap2 n1 n2:Nat) (L1:List Tri3) (hn1:L1.length=n1) (hc1:n1<=cap1) (hm1:n1<=1000000) (hok1:∀ T∈L1,okT T) (h1:(takeRun E L1).1 < n1) (w:World) (Bm:Box w mb [.map (some b)] 102) (Hm:Hs w b E) (Hr1:RowAt cT 6 w a1 L1):Calls prog 42 #[pt0 mb,.slice a1 n1 cap1,.slice a2 n2 cap2] w λe w'=>e=.returned (.int .i64 16)/\w.grownBy w' (some b)/\Hs w' b (putRun (takeRun E L1).2 (L1.take (takeRun E L1).1)).2:=by
 have c1:=jF mb b E a1 cap1 n1 L1 (hdd hn1) hm1 hok1;generalize hk:(takeRun E L1).1=k at *
 generalize (takeRun E L1).2=F at *
 have c2:=jV mb b F a1 cap1 k (L1.take k) (hdd (by rw [JV];omega)) (by omega) (λT hT=>hok1 T (QT hT));generalize (putRun F (L1.take k)).1=j at *
 generalize hL2:L1.take k=L2 at *
 have HL2:=hdd hL2;generalize (putRun F L2).2=G at *
 have d1:decide ((k:Int) < (n1:Int))=true:=by simp;omega
 have d2:(k:Int) < (n1:Int):=by omega
 have hkc:k<=cap1:=by omega
 clear hok1 hn1 hL2 hk
 go_enter func42,ntmps42
 go_wp2_with fail;refine (c1 _ Bm Hm Hr1).mono ?_;rintro e w1 ⟨rfl,hg,H1⟩;replace Bm:=Bm.turn Hm hg;have Hr2:=ZT (Hr1.turn cT_ne Hm hg) k;rw [HL2.o] at Hr2;clear Hm Hr1 c1 HL2;go_wp2_with fail;refine (c2 _ Bm H1 Hr2).mono ?_;rintro e w2 ⟨rfl,hh,H2⟩;replace hg:=zQ hg hh;clear hh;go_wp2
 go_ret
 exact ⟨rfl,hg,H2⟩
theorem replace_bad (mb b:Nat) (E:Es) (a1 a2:Option Addr) (cap1 cap2 n1 n2:Nat) (L1 L2:List Tri3) (hn1:L1.length=n1) (hm1:n1<=1000000) (hok1:∀ T∈L1,okT T) (hn2:L2.length=n2) (hc2:n2<=cap2) (hm2:n2<=1000000) (hok2:∀ T∈L2,okT T) (h1:(takeRun E L1).1=n1) (h2:(putRun (takeRun E L1).2 L2).1 < n2) (w:World) (Bm:Box w mb [.map (some b)] 102) (Hm:Hs w b E) (Hr1:RowAt cT 6 w a1 L1) (Hr2:RowAt cT 6 w a2 L2):Calls prog 42 #[pt0 mb,.slice a1 n1 cap1,.slice a2 n2 cap2] w λe w'=>e=.returned (.int .i64 2)/\w.grownBy w' (some b)/\Hs w' b (putRun (takeRun (putRun (takeRun E L1).2 L2).2 (L2.take (putRun (takeRun E L1).2 L2).1)).2 L1).2:=by
 have c1:=jF mb b E a1 cap1 n1 L1 (hdd hn1) hm1 hok1;rw [h1] at c1;generalize (takeRun E L1).2=F at *
 have c2:=jV mb b F a2 cap2 n2 L2 (hdd hn2) hm2 hok2;generalize (putRun F L2).1=k at *
 generalize (putRun F L2).2=G at *
 have c3:=jF mb b G a2 cap2 k (L2.take k) (hdd (by rw [JV];omega)) (by omega) (λT hT=>hok2 T (QT hT));generalize hL3:L2.take k=L3 at *
 have HL3:=hdd hL3;generalize (takeRun G L3).1=j3 at *
 generalize (takeRun G L3).2=G3 at *
 have c4:=jV mb b G3 a1 cap1 n1 L1 (hdd hn1) hm1 hok1;generalize (putRun G3 L1).1=j4 at *
 generalize (putRun G3 L1).2=G4 at *
 have d0:decide ((n1:Int) < (n1:Int))=false:=by simp
 have d1:decide ((k:Int) < (n2:Int))=true:=by simp;omega
 have d2:(k:Int) < (n2:Int):=by omega
 have hkc:k<=cap2:=by omega
 clear hok1 hok2 hn1 hn2 hL3 h1
 go_enter func42,ntmps42
 go_wp2_with fail;refine (c1 _ Bm Hm Hr1).mono ?_;rintro e w1 ⟨rfl,hg,H1⟩;replace Bm:=Bm.turn Hm hg;replace Hr1:=Hr1.turn cT_ne Hm hg;replace Hr2:=Hr2.turn cT_ne Hm hg;clear Hm c1;go_wp2_with fail;refine (c2 _ Bm H1 Hr2).mono ?_;rintro e w2 ⟨rfl,hh,H2⟩;replace hg:=zQ hg hh;replace Bm:=Bm.turn H1 hh;replace Hr1:=Hr1.turn cT_ne H1 hh;have Hr3:=ZT (Hr2.turn cT_ne H1 hh) k;rw [HL3.o] at Hr3;clear hh H1 c2 Hr2 HL3;go_wp2_with fail;refine (c3 _ Bm H2 Hr3).mono ?_;rintro e w3 ⟨rfl,hh,H3⟩;replace hg:=zQ hg hh;replace Bm:=Bm.turn H2 hh;replace Hr1:=Hr1.turn cT_ne H2 hh;clear hh H2 c3 Hr3;go_wp2_with fail;refine (c4 _ Bm H3 Hr1).mono ?_;rintro e w4 ⟨rfl,hh,H4⟩;replace hg:=zQ hg hh;clear hh;go_wp2
 go_ret
 exact ⟨rfl,hg,H4⟩
theorem Good.takeUp:∀ {L1:List Tri3} {E:Es} {L:List Tri3},Good E L->∃ M,L.Perm (L1.take (takeRun E L1).1 ++ M)/\Good (takeRun E L1).2 M
 | [],E,L,h=>⟨L,by simp,h⟩
 | T :: L1,E,L,h=>by
  unfold takeRun;by_cases hh:hasE E T=true
  ·rw [J1 hh];have hm:=h.has.1 hh;obtain ⟨M0,hM0⟩:∃ M0,L.Perm (T :: M0):=⟨L.erase T,Vx hm⟩;obtain ⟨_,h2⟩:=Good.take (h.order hM0);obtain ⟨M,p,g⟩:=Good.takeUp (L1:=L1) h2;exact ⟨M,by simp only [Jk,Jn];exact hM0.trans (p.cons T),g⟩
  ·rw [Kl hh];exact ⟨L,by simp,h⟩
theorem fits_free {E:Es} {M:List Tri3} (h:Good E M) {T:Tri3} (hf:fitsE E T=true):valT T=true/\∀ w∈ways T,w ∉ M.flatMap ways:=by
 obtain ⟨h1,h2,h3,hv⟩:=tQ hf;refine ⟨hv,λw hw=>?_⟩;simp only [ways,Km,JB,Jj] at hw;rcases hw with rfl | rfl | rfl
 ·exact h.get_none.1 h1
 ·exact h.get_none.1 h2
 ·exact h.get_none.1 h3
theorem Good.putUp:∀ {L2:List Tri3} {E:Es} {M:List Tri3},Good E M->Good (putRun E L2).2 (L2.take (putRun E L2).1 ++ M)
 | [],E,M,h=>by simpa [putRun] using h
 | T :: L2,E,M,h=>by
  unfold putRun;by_cases hh:fitsE E T=true
  ·rw [J1 hh];obtain ⟨hv,hn⟩:=fits_free h hh;have h2:=(Good.put h hv hn).2;have:=Good.putUp (L2:=L2) h2;simp only [Jk,Jn];exact this.order QH
  ·rw [Kl hh]
   simpa using h
def Repl (E:Es) (L L1 L2:List Tri3) (r:Int) (L':List Tri3):Prop:=
 (r=16/\(takeRun E L1).1 < L1.length/\L'.Perm L) \/
 (r=2/\(takeRun E L1).1=L1.length/\(putRun (takeRun E L1).2 L2).1 < L2.length/\L'.Perm L) \/
 (r=0/\(takeRun E L1).1=L1.length/\(putRun (takeRun E L1).2 L2).1=L2.length/\∃ M,L.Perm (L1 ++ M)/\L'.Perm (L2 ++ M))
theorem mreplace_any (mb b:Nat) (E:Es) (L:List Tri3) (g:Good E L) (a1 a2:Option Addr) (cap1 cap2 n1 n2:Nat) (L1 L2:List Tri3) (hn1:L1.length=n1) (hc1:n1<=cap1) (hm1:n1<=1000000) (hok1:∀ T∈L1,okT T) (hn2:L2.length=n2) (hc2:n2<=cap2) (hm2:n2<=1000000) (hok2:∀ T∈L2,okT T) (w:World) (Bm:Box w mb [.map (some b)] 102) (Hm:Hs w b E) (Hr1:RowAt cT 6 w a1 L1) (Hr2:RowAt cT 6 w a2 L2):Calls prog 42 #[pt0 mb,.slice a1 n1 cap1,.slice a2 n2 cap2] w λe w'=>∃ r E' L',e=.returned (.int .i64 r)/\w.grownBy w' (some b)/\Hs w' b E'/\Good E' L'/\Repl E L L1 L2 r L':=by
 obtain ⟨M,pM,gM⟩:=Good.takeUp (L1:=L1) g;have tl:=ur L1 E;by_cases h1:(takeRun E L1).1=n1
 ·have e1:L1.take (takeRun E L1).1=L1:=JM (by omega);rw [e1] at pM;have pl:=uz L2 (takeRun E L1).2;have gG:=Good.putUp (L2:=L2) gM;by_cases h2:(putRun (takeRun E L1).2 L2).1=n2
  ·have e2:L2.take (putRun (takeRun E L1).2 L2).1=L2:=JM (by omega);rw [e2] at gG;refine (ux mb b E a1 a2 cap1 cap2 n1 n2 L1 L2 (hdd hn1) hm1 hok1 (hdd hn2) hm2 hok2 h1 h2 w Bm Hm Hr1 Hr2).mono ?_;rintro e w' ⟨rfl,hg,H'⟩;exact ⟨0,_,_,rfl,hg,H',gG,.inr (.inr ⟨rfl,by omega,by omega,M,pM,.refl _⟩)⟩
  ·refine (replace_bad mb b E a1 a2 cap1 cap2 n1 n2 L1 L2 hn1 hm1 hok1 hn2 hc2 hm2 hok2 h1 (by omega) w Bm Hm Hr1 Hr2).mono ?_;rintro e w' ⟨rfl,hg,H'⟩;have g3:=(Good.takes (F:=L2.take (putRun (takeRun E L1).2 L2).1) (M:=M) gG).2;have n4:((L1 ++ M).flatMap ways).Nodup:=(zq pM).nodup_iff.1 g.once;have g4:=(Good.puts (I:=L1) (M:=M) g3 (λT hT=>g.val T (pM.mem_iff.2 (by simp [hT]))) n4).2;exact ⟨2,_,_,rfl,hg,H',g4,.inr (.inl ⟨rfl,by omega,by omega,pM.symm⟩)⟩
 ·refine (replace_none mb b E a1 a2 cap1 cap2 n1 n2 L1 hn1 hc1 hm1 hok1 (by omega) w Bm Hm Hr1).mono ?_;rintro e w' ⟨rfl,hg,H'⟩;have n4:((L1.take (takeRun E L1).1 ++ M).flatMap ways).Nodup:=(zq pM).nodup_iff.1 g.once;have g4:=(Good.puts (I:=L1.take (takeRun E L1).1) (M:=M) gM (λT hT=>g.val T (pM.mem_iff.2 (by simp [hT]))) n4).2;exact ⟨16,_,_,rfl,hg,H',g4,.inl ⟨rfl,by omega,pM.symm⟩⟩
theorem flip_g (mb b:Nat) (E:Es) (p q:Pt) (hk:okW (p,q)) (L:List Tri3) (g:Good E L) (S R U V:Tri3) (C D:Pt) (h0:getE E (p,q)=some S) (h1:getE E (q,p)=some R) (hC:apx S p q=C) (hD:apx R p q=D) (hm:meetS p q C D=1) (hU:mk C p D=U) (hV:mk D q C=V) (hS:okT S) (hR:okT R) (hu:okT U) (hv:okT V) (w:World) (Bm:Box w mb [.map (some b)] 102) (Hm:Hs w b E):Calls prog 135 #[pt0 mb,p,q] w λe w'=>∃ r E' L',e=.returned (.int .i64 r)/\w.grownBy w' (some b)/\Hs w' b E'/\Good E' L'/\Repl E L [S,R] [U,V] r L':=by
 have cl:=Z4 mb b E p q S h0 hk;have cr:=Z4 mb b E q p R h1 ⟨hk.2,hk.1⟩;clear h0 h1;have ca:=ks S p q;have cb:=ks R p q;have cm:=uO p q C D;have cu:=vf C p D;have cv:=vf D q C;rw [hU] at cu;rw [hV] at cv;rw [hC] at ca;rw [hD] at cb;rw [hm] at cm;have cp:=λa1 a2 w B H R1 R2=>mreplace_any mb b E L g a1 a2 2 2 2 2 [S,R] [U,V] rfl (by decide) (by decide) (by simpa using And.intro hS hR) rfl (by decide) (by decide) (by simpa using And.intro hu hv) w B H R1 R2;have HGG:=hdd g;clear hU hV hC hD hm hS hR hu hv g
 go_enter func135,ntmps135
 go_wp2_with fail;refine qE2 λW1 Bp Bq hw=>?_;refine qC2 (cl _ (Bm.ee hw) (Hm.ee hw)) Bp Bq hw λw2 Bp Bq hw FK=>?_;go_wp2_with fail;clear FK;refine zI λW3 hW=>?_;obtain ⟨bks,hbs⟩:∃ b,w2.heap.size=b:=⟨_,rfl⟩;rw [hbs];obtain ⟨lps,lqs,fs,Bs,Bp,Bq,hw⟩:=qM2 hW hbs Bp Bq hw;clear hW hbs;refine qC3 (cr _ (Bm.ee hw) (Hm.ee hw)) Bp Bq Bs hw λw4 Bp Bq Bs hw Gu=>?_;go_wp2_with fail;clear Gu;refine zG λW5 hW=>?_;obtain ⟨bkr,hbr⟩:∃ b,w4.heap.size=b:=⟨_,rfl⟩;rw [hbr];obtain ⟨lpr,lqr,lsr,fr,Br,Bp,Bq,Bs,hw⟩:=qM3 hW hbr Bp Bq Bs hw;clear hW hbr;have Gt:=J4 Bp.cells Bq.cells Bs.cells Br.cells;refine zl 10 [⟨8,10,26,[(),()]⟩,⟨9,11,26,[(),()]⟩] ?_ (by kernel_rfl) (by decide) (by decide) (by kernel_rfl) (by decide) (C:=λw'=>∃ p:Regrown,w'=grow (redrawn W5 p.d) p.os) rgB ?_
 ·simp only [QM];refine ⟨⟨_,rfl,rfl,rfl,rfl,λρ W=>by simp [execOp,go_sem]⟩,⟨_,rfl,rfl,rfl,rfl,λρ W=>by simp [execOp,go_sem]⟩,λ_ h=>(by cases h)⟩
 simp only [Jk,QQ,Jc,Qy,dropIdx,QW,Qa,Nat.reduceBEq,Nat.reduceAdd,Qx,V4,V5,Jw,VS,VL];refine wkx ?_;intro w6 β hL;simp only [putD,Q7,QC];have qc:=hL.box ⟨8,10,26,[(),()]⟩ (by simp) (by simp);simp only at qc;have qd:=hL.box ⟨9,11,26,[(),()]⟩ (by simp) (by simp);simp only at qd;have ncd:=hL.apart 10 (by simp) 11 (by simp) (by decide);have ndc:=hL.apart 11 (by simp) 10 (by simp) (by decide);have hb:=hL.below;have lp:=Bp.lt;have lq:=Bq.lt;have ls:=Bs.lt;have lr:=Br.lt;clear Gt;replace Bp:=Bp.ee hb;replace Bq:=Bq.ee hb;replace Bs:=Bs.ee hb;replace Br:=Br.ee hb;have hw0:=hw.size;replace hw:=upB hw hb;clear hb hL;generalize β 10=bkc at *
 generalize β 11=bkd at *
 clear β;obtain ⟨fc,Bc⟩:=qc;obtain ⟨fd,Bd⟩:=qd;simp only [Act.put];have Fc:=Bc.f;have Fd:=Bd.f;have Fp:=Bp.f;have Fq:=Bq.f;have Fs:=Bs.f;have Fr:=Br.f;have epbkc:(w.heap.size=bkc)=False:=by simp;omega
 have epbkc':(bkc=w.heap.size)=False:=by simp;omega
 have epbkd:(w.heap.size=bkd)=False:=by simp;omega
 have epbkd':(bkd=w.heap.size)=False:=by simp;omega
 have eqbkc:(w.heap.size+1=bkc)=False:=by simp;omega
 have eqbkc':(bkc=w.heap.size+1)=False:=by simp;omega
 have eqbkd:(w.heap.size+1=bkd)=False:=by simp;omega
 have eqbkd':(bkd=w.heap.size+1)=False:=by simp;omega
 have esbkc:(bks=bkc)=False:=by simp;omega
 have esbkc':(bkc=bks)=False:=by simp;omega
 have esbkd:(bks=bkd)=False:=by simp;omega
 have esbkd':(bkd=bks)=False:=by simp;omega
 have erbkc:(bkr=bkc)=False:=by simp;omega
 have erbkc':(bkc=bkr)=False:=by simp;omega
 have erbkd:(bkr=bkd)=False:=by simp;omega
 have erbkd':(bkd=bkr)=False:=by simp;omega
 have ebkcbkd:(bkc=bkd)=False:=by simp;omega
 have ebkdbkc:(bkd=bkc)=False:=by simp;omega
 go_wp2_with fail;refine zI λW7 hW=>?_;replace Bp:=sto Bp hW;replace Bq:=sto Bq hW;replace Bs:=sto Bs hW;replace Br:=sto Br hW;replace Bc:=sto Bc hW;replace Bd:=sto Bd hW;replace hw:=stw hw hW;clear Fc Fd;clear Fp Fq Fs Fr epbkc epbkc' epbkd epbkd' eqbkc eqbkc' eqbkd eqbkd' esbkc esbkc' esbkd esbkd' erbkc erbkc' erbkd erbkd' ebkcbkd ebkdbkc;clear hW;refine qC6 (cm _) Bp Bq Bs Br Bc Bd hw λw8 Bp Bq Bs Br Bc Bd hw Gq=>?_;go_wp2_with fail;clear Gq;refine qC6 (cu _) Bp Bq Bs Br Bc Bd hw λw9 Bp Bq Bs Br Bc Bd hw Gq=>?_;go_wp2_with fail;clear Gq;refine zI λW10 hW=>?_;obtain ⟨bku,hbu⟩:∃ b,w9.heap.size=b:=⟨_,rfl⟩;rw [hbu];have lpu:=Bp.lt;rw [hbu] at lpu;have lqu:=Bq.lt;rw [hbu] at lqu;have lsu:=Bs.lt;rw [hbu] at lsu;have lru:=Br.lt;rw [hbu] at lru;have lcu:=Bc.lt;rw [hbu] at lcu;have ldu:=Bd.lt;rw [hbu] at ldu;have fu:=hw.size;rw [hbu] at fu;have Bu:Box W10 bku [U.A.x,U.A.y,U.B.x,U.B.y,U.C.x,U.C.y] 28:=by rw [hW];exact Box.new hbu.symm
 replace Bp:Box W10 w [p.x,p.y] 26:=by rw [hW];exact Bp.old _
 replace Bq:Box W10 (w+1) [q.x,q.y] 26:=by rw [hW];exact Bq.old _
 replace Bs:Box W10 (bks) [S.A.x,S.A.y,S.B.x,S.B.y,S.C.x,S.C.y] 28:=by rw [hW];exact Bs.old _
 replace Br:Box W10 (bkr) [R.A.x,R.A.y,R.B.x,R.B.y,R.C.x,R.C.y] 28:=by rw [hW];exact Br.old _
 replace Bc:Box W10 (bkc) [C.x,C.y] 26:=by rw [hW];exact Bc.old _
 replace Bd:Box W10 (bkd) [D.x,D.y] 26:=by rw [hW];exact Bd.old _
 replace hw:Below w w W10:=by have hl:=hw.size;rw [hW];go_grown
 clear hW hbu;refine (cv _).mono ?_;rintro e w11 ⟨rfl,hb⟩;replace Bp:=Bp.ee hb;obtain ⟨Bq,Bs,Br,Bc,Bd,Bu,hw,-⟩:=qX6 Bq Bs Br Bc Bd Bu hw hb;clear hb;have Fp:=Bp.f;have Fq:=Bq.f;have Fs:=Bs.f;have Fr:=Br.f;have Fc:=Bc.f;have Fd:=Bd.f;have Fu:=Bu.f;have es4:(bks=w11.heap.size+1)=False:=by have:=Bs.lt;simp;omega
 have es8:(bks=w11.heap.size+1+1)=False:=by have:=Bs.lt;simp;omega
 have er4:(bkr=w11.heap.size+1)=False:=by have:=Br.lt;simp;omega
 have er8:(bkr=w11.heap.size+1+1)=False:=by have:=Br.lt;simp;omega
 have eu4:(bku=w11.heap.size+1)=False:=by have:=Bu.lt;simp;omega
 have eu8:(bku=w11.heap.size+1+1)=False:=by have:=Bu.lt;simp;omega
 go_wp2_with fail;have row:∀ {w:World} {g:Nat} {X Y:Tri3},Box w g (cT X ++ cT Y) 28->RowAt cT 6 w (some ⟨g,0,none⟩) [X,Y]:=λ{w g X Y} h=>jy (S:=[X,Y]) (by simpa using h);refine zI λW12 hW=>?_;have R1:RowAt cT 6 W12 (some ⟨w11+1,0,none⟩) [S,R]:=row (by rw [hW];exact (Box.new (by simp)).old _);have R2:RowAt cT 6 W12 (some ⟨w11+1+1,0,none⟩) [U,V]:=row (by rw [hW];exact Box.new (by simp));replace hw:Below w w W12:=by have hl:=hw.size;rw [hW];go_grown
 clear hW row;have hlt:=Hm.lt;refine (cp _ _ _ (Bm.ee hw) (Hm.ee hw) R1 R2).mono ?_;rintro e w13 ⟨r,E9,L9,rfl,hg,H2,G2,R9⟩;replace hg:=below_then hw hg;clear Fp Fq Fs Fr Fc Fd Fu;go_wp2
 go_ret
 exact ⟨r,E9,L9,rfl,hg,H2,G2,R9⟩
theorem flip_m (mb b:Nat) (E:Es) (p q:Pt) (hk:okW (p,q)) (S R:Tri3) (C D:Pt) (h0:getE E (p,q)=some S) (h1:getE E (q,p)=some R) (hC:apx S p q=C) (hD:apx R p q=D) (hm:¬ meetS p q C D=1) (w:World) (Bm:Box w mb [.map (some b)] 102) (Hm:Hs w b E):Calls prog 135 #[pt0 mb,p,q] w (Rt w (.int .i64 2)):=by
 have cl:=Z4 mb b E p q S h0 hk;have cr:=Z4 mb b E q p R h1 ⟨hk.2,hk.1⟩;clear h0 h1;have ca:=ks S p q;have cb:=ks R p q;have cm:=uO p q C D;rw [hC] at ca;rw [hD] at cb;generalize meetS p q C D=z at *
 have hz:(z != 1)=true:=by simpa using hm
 clear hC hD
 go_enter func135,ntmps135
 go_wp2_with fail;refine qE2 λW1 Bp Bq hw=>?_;refine qC2 (cl _ (Bm.ee hw) (Hm.ee hw)) Bp Bq hw λw2 Bp Bq hw FK=>?_;go_wp2_with fail;clear FK;refine zI λW3 hW=>?_;obtain ⟨bks,hbs⟩:∃ b,w2.heap.size=b:=⟨_,rfl⟩;rw [hbs];obtain ⟨lps,lqs,fs,Bs,Bp,Bq,hw⟩:=qM2 hW hbs Bp Bq hw;clear hW hbs;refine qC3 (cr _ (Bm.ee hw) (Hm.ee hw)) Bp Bq Bs hw λw4 Bp Bq Bs hw Gu=>?_;go_wp2_with fail;clear Gu;refine zG λW5 hW=>?_;obtain ⟨bkr,hbr⟩:∃ b,w4.heap.size=b:=⟨_,rfl⟩;rw [hbr];obtain ⟨lpr,lqr,lsr,fr,Br,Bp,Bq,Bs,hw⟩:=qM3 hW hbr Bp Bq Bs hw;clear hW hbr;have Gt:=J4 Bp.cells Bq.cells Bs.cells Br.cells;refine zl 10 [⟨8,10,26,[(),()]⟩,⟨9,11,26,[(),()]⟩] ?_ (by kernel_rfl) (by decide) (by decide) (by kernel_rfl) (by decide) (C:=λw'=>∃ p:Regrown,w'=grow (redrawn W5 p.d) p.os) rgB ?_
 ·simp only [QM];refine ⟨⟨_,rfl,rfl,rfl,rfl,λρ W=>by simp [execOp,go_sem]⟩,⟨_,rfl,rfl,rfl,rfl,λρ W=>by simp [execOp,go_sem]⟩,λ_ h=>(by cases h)⟩
 simp only [Jk,QQ,Jc,Qy,dropIdx,QW,Qa,Nat.reduceBEq,Nat.reduceAdd,Qx,V4,V5,Jw,VS,VL];refine wkx ?_;intro w6 β hL;simp only [putD,Q7,QC];have qc:=hL.box ⟨8,10,26,[(),()]⟩ (by simp) (by simp);simp only at qc;have qd:=hL.box ⟨9,11,26,[(),()]⟩ (by simp) (by simp);simp only at qd;have ncd:=hL.apart 10 (by simp) 11 (by simp) (by decide);have ndc:=hL.apart 11 (by simp) 10 (by simp) (by decide);have hb:=hL.below;have lp:=Bp.lt;have lq:=Bq.lt;have ls:=Bs.lt;have lr:=Br.lt;clear Gt;replace Bp:=Bp.ee hb;replace Bq:=Bq.ee hb;replace Bs:=Bs.ee hb;replace Br:=Br.ee hb;have hw0:=hw.size;replace hw:=upB hw hb;clear hb hL;generalize β 10=bkc at *
 generalize β 11=bkd at *
 clear β;obtain ⟨fc,Bc⟩:=qc;obtain ⟨fd,Bd⟩:=qd;simp only [Act.put];have Fc:=Bc.f;have Fd:=Bd.f;have Fp:=Bp.f;have Fq:=Bq.f;have Fs:=Bs.f;have Fr:=Br.f;have epbkc:(w.heap.size=bkc)=False:=by simp;omega
 have epbkc':(bkc=w.heap.size)=False:=by simp;omega
 have epbkd:(w.heap.size=bkd)=False:=by simp;omega
 have epbkd':(bkd=w.heap.size)=False:=by simp;omega
 have eqbkc:(w.heap.size+1=bkc)=False:=by simp;omega
 have eqbkc':(bkc=w.heap.size+1)=False:=by simp;omega
 have eqbkd:(w.heap.size+1=bkd)=False:=by simp;omega
 have eqbkd':(bkd=w.heap.size+1)=False:=by simp;omega
 have esbkc:(bks=bkc)=False:=by simp;omega
 have esbkc':(bkc=bks)=False:=by simp;omega
 have esbkd:(bks=bkd)=False:=by simp;omega
 have esbkd':(bkd=bks)=False:=by simp;omega
 have erbkc:(bkr=bkc)=False:=by simp;omega
 have erbkc':(bkc=bkr)=False:=by simp;omega
 have erbkd:(bkr=bkd)=False:=by simp;omega
 have erbkd':(bkd=bkr)=False:=by simp;omega
 have ebkcbkd:(bkc=bkd)=False:=by simp;omega
 have ebkdbkc:(bkd=bkc)=False:=by simp;omega
 go_wp2_with fail;refine zI λW7 hW=>?_;replace Bp:=sto Bp hW;replace Bq:=sto Bq hW;replace Bs:=sto Bs hW;replace Br:=sto Br hW;replace Bc:=sto Bc hW;replace Bd:=sto Bd hW;replace hw:=stw hw hW;clear Fc Fd;clear Fp Fq Fs Fr epbkc epbkc' epbkd epbkd' eqbkc eqbkc' eqbkd eqbkd' esbkc esbkc' esbkd esbkd' erbkc erbkc' erbkd erbkd' ebkcbkd ebkdbkc;clear hW;refine qK6 (cm _) Bp Bq Bs Br Bc Bd hw λw8 Bp Bq Bs Br Bc Bd hw=>?_;have Fp:=Bp.f;have Fq:=Bq.f;have Fs:=Bs.f;have Fr:=Br.f;have Fc:=Bc.f;have Fd:=Bd.f;go_wp2
 go_ret
 exact ⟨rfl,by have hl:=hw.size;go_grown⟩
theorem mk_okT (a b c:Pt):okT (mk a b c):=by
 by_cases h:ori a b c=0
 ·rw [Zg h];have z:vld (⟨0,0⟩:Pt)=true:=by decide
  exact ⟨yW z,yW z,yW z⟩
 ·exact ye (mk_ok h).1
def FlipC (E:Es) (L:List Tri3) (p q:Pt) (r:Int) (L':List Tri3):Prop:=
 (r=16/\(getE E (p,q)=none\/getE E (q,p)=none)/\L'.Perm L) \/
 (∃ S R,getE E (p,q)=some S/\getE E (q,p)=some R /\
  ((meetS p q (apx S p q) (apx R p q)≠1/\r=2/\L'.Perm L) \/
   (meetS p q (apx S p q) (apx R p q)=1/\Repl E L [S,R] [mk (apx S p q) p (apx R p q),mk (apx R p q) q (apx S p q)] r L')))
theorem mflip_any (mb b:Nat) (E:Es) (L:List Tri3) (g:Good E L) (p q:Pt) (hk:okW (p,q)) (w:World) (Bm:Box w mb [.map (some b)] 102) (Hm:Hs w b E):Calls prog 135 #[pt0 mb,p,q] w λe w'=>∃ r E' L',e=.returned (.int .i64 r)/\w.grownBy w' (some b)/\Hs w' b E'/\Good E' L'/\FlipC E L p q r L':=by
 cases h0:getE E (p,q) with
 | none=>
  refine (flip_n0 mb b E p q hk h0 w Bm Hm).mono ?_;rintro e w' ⟨rfl,hb⟩;exact ⟨16,E,L,rfl,zM hb _,Hm.ee hb,g,.inl ⟨rfl,.inl h0,.refl _⟩⟩
 | some S=>
  cases h1:getE E (q,p) with
  | none=>
   refine (flip_n1 mb b E p q hk S h0 h1 w Bm Hm).mono ?_;rintro e w' ⟨rfl,hb⟩;exact ⟨16,E,L,rfl,zM hb _,Hm.ee hb,g,.inl ⟨rfl,.inr h1,.refl _⟩⟩
  | some R=>
   have hS:=ye (g.val _ (g.get.1 h0).1);have hR:=ye (g.val _ (g.get.1 h1).1);by_cases hm:meetS p q (apx S p q) (apx R p q)=1
   ·refine (flip_g mb b E p q hk L g S R _ _ _ _ h0 h1 rfl rfl hm rfl rfl hS hR (mk_okT _ _ _) (mk_okT _ _ _) w Bm Hm).mono ?_;rintro e w' ⟨r,E',L',rfl,hg,H',g',hr⟩;exact ⟨r,E',L',rfl,hg,H',g',.inr ⟨S,R,h0,h1,.inr ⟨hm,hr⟩⟩⟩
   ·refine (flip_m mb b E p q hk S R _ _ h0 h1 rfl rfl hm w Bm Hm).mono ?_;rintro e w' ⟨rfl,hb⟩;exact ⟨2,E,L,rfl,zM hb _,Hm.ee hb,g,.inr ⟨S,R,h0,h1,.inl ⟨hm,rfl,.refl _⟩⟩⟩
end
end Go.Proofs.YtmpfadapbbjbkaaGreat
