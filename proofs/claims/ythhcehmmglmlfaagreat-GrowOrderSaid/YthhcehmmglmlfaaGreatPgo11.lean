import Derived.Test.YthhcehmmglmlfaaGreatPgo10
import Derived.Deep.Cut
set_option maxRecDepth 100000
set_option maxHeartbeats 8000000
set_option linter.all false
namespace Go.Proofs.YthhcehmmglmlfaaGreat
open _root_.Go.Proofs.Tryz
section
open Go.RowKit
theorem put_one {D:List Wl} {X:Wl} {i j:Nat} (h1:PutAt D X i) (h2:PutAt D X j):i=j:=by
 have one:∀ {i j:Nat},PutAt D X i->PutAt D X j->i < j->False:=λ{i j} ⟨_,a,_⟩ ⟨b,_,c⟩ h=>by
  have hj:j - 1 < D.length:=by omega
  exact c hj (by omega) (a (j - 1) hj (by omega))
 rcases Nat.lt_trichotomy i j with h | h | h
 ·exact (one h1 h2 h).elim
 ·exact h
 ·exact (one h2 h1 h).elim
theorem Xs {k:Int}:∀ (M:List Pt) {E1 E2 F1 F2:Es} {D D1 D2:List Wl},addsW k M E1 D F1 D1->addsW k M E2 D F2 D2->D1=D2
 | [],_,_,_,_,_,_,_,h1,h2=>h1.2.trans h2.2.symm
 | [_],_,_,_,_,_,_,_,h1,h2=>h1.2.trans h2.2.symm
 | x :: y :: M,E1,E2,F1,F2,D,D1,D2,h1,h2=>by
  obtain ⟨Q1,i,_,p1,a1⟩:=h1;obtain ⟨Q2,j,_,p2,a2⟩:=h2;obtain rfl:=put_one p1 p2;exact Xs (y :: M) a1 a2
theorem star_on {E:Es} {p q z:Pt} (h:z∈onE E p q):starE z E≠[]:=by
 unfold onE froms at h;obtain ⟨e,he,hz⟩:=JS.1 (JZ.1 h).1;unfold starE;intro hn;have:e.2∈(E.filter λe=>decide (e.1.1=z)).map (·.2):=JS.2 ⟨e,JZ.2 ⟨he,by simpa using hz⟩,rfl⟩;rw [hn] at this;cases this
theorem ZX {E F:Es} {L M:List Tri3} (g:Good E L) (g2:Good F M) (c:∀ x,someC L x↔someC M x) {p q:Pt} (vp:vld p) (vq:vld q) (h:starE p E≠[]):starE p F≠[]:=by
 have h1:=Zp (q:=q) h vp vq;rw [tI g] at h1;have h2:p∈onE F p q:=(tI g2).2 ⟨(c p).1 h1.1,h1.2⟩;exact star_on h2
theorem addw_one {E1 E2 F1 F2:Es} {L1 L2:List Tri3} {D D1 D2:List Wl} {p q:Pt} {r1 r2:Int} (g1:Good E1 L1) (g2:Good E2 L2) (c:∀ x,someC L1 x↔someC L2 x) (h1:AddWR E1 D p q 1 r1 F1 D1) (h2:AddWR E2 D p q 1 r2 F2 D2):D1=D2:=by
 have on:∀ x,x∈onE E1 p q↔x∈onE E2 p q:=λx=>by rw [tI g1,tI g2,c x]
 have yes : ∀ {E F : Es} {L M : List Tri3}, Good E L -> Good F M -> (∀ x, someC L x ↔ someC M x) -> (∀ x, x ∈ onE E p q ↔ x ∈ onE F p q) -> WhyNo F D p q 1 ->
     (((1:Int)=1\/(1:Int)=2)/\p≠q/\vld p=true/\vld q=true/\starE p E≠[]/\starE q E≠[]/\∃ M,PartsL E p q M/\calm D M)->False:=by
  intro E F L M g g2 c on no ⟨k,hpq,vp,vq,s1,s2,N,hN,hc⟩;exact no ⟨k,hpq,vp,vq,ZX g g2 c vp vq s1,ZX g g2 c vq vp s2,N,⟨λx=>(hN.1 x).trans (on x),hN.2⟩,hc⟩
 rcases h1 with ⟨_,_,rfl,n1⟩ | ⟨_,k,a,b,d,e,f,M1,m1,c1,x1⟩ <;> rcases h2 with ⟨_,_,e2,n2⟩ | ⟨_,k2,a2,b2,d2,e2,f2,M2,m2,c2,x2⟩
 ·exact e2.symm
 ·exact (yes g2 g1 (λx=>(c x).symm) (λx=>(on x).symm) n1 ⟨k2,a2,b2,d2,e2,f2,M2,m2,c2⟩).elim
 ·exact (yes g1 g2 c on n2 ⟨k,a,b,d,e,f,M1,m1,c1⟩).elim
 ·obtain rfl:=Zn on m1 m2;exact Xs M1 x1 x2
def RunP (s:Int) (P:List Int):Nat->List Wl->Prop
 | 0,D=>Ris D/\D.Perm [sqW s s 0,sqW s s 1,sqW s s 2,sqW s s 3]
 | k+1,D'=>∃ (hk:k < P.length) (D:List Wl) (E E':Es) (L L':List Tri3) (r:Int),RunP s P k D/\CInvW s s E L D/\CInvW s s E' L' D'/\(∀ q,someC L q↔PutPt s (P.take k) q)/\AddRes s s L (spt s P[k]) r/\(r=0->AddD D (spt s P[k]) D')/\(r≠0->D'=D)
def RunW (s:Int) (P:List Int) (Q:List Pt):Nat->List Wl->Prop
 | 0,D=>RunP s P P.length D
 | k+1,D'=>∃ (hk:k < Q.length) (D:List Wl) (E F:Es) (L:List Tri3) (r:Int),RunW s P Q k D/\CInvW s s E L D/\(∀ q,someC L q↔PutPt s P q)/\AddWR E D (spt s Q[k].x) (spt s Q[k].y) 1 r F D'
theorem Yk {s:Int} {P:List Int}:∀ (k:Nat) {D1 D2:List Wl},RunP s P k D1->RunP s P k D2->D1=D2
 | 0,D1,D2,⟨r1,p1⟩,⟨r2,p2⟩=>yB wholeW r1 r2 λx=>(p1.trans p2.symm).mem_iff
 | k+1,D1,D2,⟨_,A1,E1,F1,L1,M1,r1,a1,b1,c1,d1,e1,f1,g1⟩,⟨_,A2,E2,F2,L2,M2,r2,a2,b2,c2,d2,e2,f2,g2⟩=>by
  obtain rfl:=Yk k a1 a2;have hr:=addRes_same (λq=>(d1 q).trans (d2 q).symm) e1 e2;subst hr;by_cases h:r1=0
  ·exact addD_same b1.wal.ris b1.wal.apart b1.wal.good (f1 h) (f2 h) c1.wal.ris c2.wal.ris
  ·exact (g1 h).trans (g2 h).symm
theorem Yj {s:Int} {P:List Int} {Q:List Pt}:∀ (k:Nat) {D1 D2:List Wl},RunW s P Q k D1->RunW s P Q k D2->D1=D2
 | 0,_,_,h1,h2=>Yk _ h1 h2
 | k+1,D1,D2,⟨_,A1,E1,F1,L1,r1,a1,b1,c1,d1⟩,⟨_,A2,E2,F2,L2,r2,a2,b2,c2,d2⟩=>by
  obtain rfl:=Yj k a1 a2;exact addw_one b1.good b2.good (λq=>(c1 q).trans (c2 q).symm) d1 d2
open Go.Sort
attribute [local go_sem] rOper rAt rUpon cell_set sg_i64 sg_u64 alloc_cell alloc_frozen
attribute [local go_sem 10000] pt_eql pt_neq tri_eql
attribute [local irreducible] rWalk
theorem gcrn_0 (T:Tri3) (p:Pt) (h0:peqI T.A.x T.A.y p.x p.y) (w:World):Calls prog 25 #[T,p] w (Rt w (.bool true)):=by
 go_enter func25,ntmps25
 go_wp2
 go_ret
 exact ⟨rfl,by go_grown⟩
theorem gcrn_1 (T:Tri3) (p:Pt) (h0:peqI T.A.x T.A.y p.x p.y=false) (h1:peqI T.B.x T.B.y p.x p.y) (w:World):Calls prog 25 #[T,p] w (Rt w (.bool true)):=by
 go_enter func25,ntmps25
 go_wp2
 go_ret
 exact ⟨rfl,by go_grown⟩
theorem gcrn_2 (T:Tri3) (p:Pt) (h0:peqI T.A.x T.A.y p.x p.y=false) (h1:peqI T.B.x T.B.y p.x p.y=false) (h2:peqI T.C.x T.C.y p.x p.y) (w:World):Calls prog 25 #[T,p] w (Rt w (.bool true)):=by
 go_enter func25,ntmps25
 go_wp2
 go_ret
 exact ⟨rfl,by go_grown⟩
theorem gcrn_3 (T:Tri3) (p:Pt) (h0:peqI T.A.x T.A.y p.x p.y=false) (h1:peqI T.B.x T.B.y p.x p.y=false) (h2:peqI T.C.x T.C.y p.x p.y=false) (w:World):Calls prog 25 #[T,p] w (Rt w (.bool false)):=by
 go_enter func25,ntmps25
 go_wp2
 go_ret
 exact ⟨rfl,by go_grown⟩
theorem uW (T:Tri3) (p:Pt) (w:World):Calls prog 25 #[T,p] w (Rt w (.bool (isCb p T))):=by
 have e:isCb p T=(peqI T.A.x T.A.y p.x p.y || (peqI T.B.x T.B.y p.x p.y || peqI T.C.x T.C.y p.x p.y)):=by
  unfold isCb;rw [zq,zq,zq];have f:∀ q:Pt,decide (p=q)=decide (q=p):=λq=>by simp [eq_comm]
  rw [f,f,f]
 rw [e];cases h0:peqI T.A.x T.A.y p.x p.y with
 | true=>exact gcrn_0 T p h0 w
 | false=>
  cases h1:peqI T.B.x T.B.y p.x p.y with
  | true=>exact gcrn_1 T p h0 h1 w
  | false=>
   cases h2:peqI T.C.x T.C.y p.x p.y with
   | true=>exact gcrn_2 T p h0 h1 h2 w
   | false=>exact gcrn_3 T p h0 h1 h2 w
theorem XP (T:Tri3) (p:Pt) (h0:hasP T p) (h1:isCb p T=false) (hne:0 < (cutP p T).length) (w:World):Calls prog 14 #[T,p] w λe w'=>∃ g cap,e=.returned (.slice (some ⟨g,0,none⟩) (srt cmpT (cutP p T)).length cap)/\RowAt cT 6 w' (some ⟨g,0,none⟩) (srt cmpT (cutP p T))/\w.heap.size<=g/\Below w w w':=by
 have cH:=Y0 T p;rw [K8,h0] at cH;have cC:=uW T p;rw [h1] at cC;have HNE:=hdd hne;clear h0 h1 hne
 go_enter func14,ntmps14
 go_wp2_with fail;refine qE2 λW1 Bt Ba hw=>?_;refine (cH _).mono ?_;rintro e w2 ⟨rfl,hb⟩;obtain ⟨Bt,Ba,hw,-⟩:=qX2 Bt Ba hw hb;clear hb cH;have Gj:=J2 Bt.f Ba.f;go_wp2_with fail;refine (cC _).mono ?_;rintro e w3 ⟨rfl,hb⟩;clear Gj;obtain ⟨Bt,Ba,hw,-⟩:=qX2 Bt Ba hw hb;clear hb cC;go_wp2_with fail
 go_loopw [5,20] (λvl vi wr=>∃ k:Nat,vi=.int .i64 k/\k<=3/\wr.ownsRow (w.heap.size+2) 45 6 vl (cutK p T k).length ((cutK p T k).flatMap cT)/\Box wr w [T.A.x,T.A.y,T.B.x,T.B.y,T.C.x,T.C.y] 45/\Box wr (w+1) [p.x,p.y] 34/\Below w w wr) (λ_ vi _=>3 - (intOf vi).toNat)
 case atStart=>exact ⟨0,rfl,by omega,World.ownsRow_nil _ _ _ _,Bt,Ba,hw⟩
 case round=>
  clear Bt Ba hw;obtain ⟨k,rfl,hk,hown,Bt,Ba,hw⟩:=hrel;by_cases hlt:k < 3
  case neg=>
   obtain rfl:k=3:=by omega
   rw [cutK3] at hown;have hin:¬ ((3:Nat):Int) < 3:=by decide
   clear hlt hk;have h2:=hown.2;rcases h2 with ⟨_,h0⟩ | ⟨g,cap,cur,rfl,hB,hb9,k1,k2,k3,k4⟩
   ·have:=HNE.o;omega
   have cs:=uC (w.heap.size+2) _ (cutP p T) (by have:=jk p T;omega) wr hown;clear hb9 k1 k2 k3 k4;go_wp2_with fail;refine cs.mono ?_;rintro e w5 ⟨rfl,hg,a,cap2,he,hr⟩;simp only [Value.slice.injEq] at he;obtain ⟨rfl,_,rfl⟩:=he;have hl9:(srt cmpT (cutP p T)).length=(cutP p T).length:=(zU _).length_eq;have hw5:=hw.grown hg hw.size (λq hq=>by simp [Value.ownBlock] at hq;omega);go_wp2
   go_ret
   exact ⟨g,cap,by rw [hl9];rfl,hr,by omega,hw5⟩
  case pos=>
   have HLT:=hdd hlt;have hq0:(k:Int) < 3:=by omega
   have cE:=ZP T (k:Int);have cM:=vw (crn T (k:Int)) (crn T ((k:Int)+1)) p;have HST:=hdd (show cutK p T (k+1)=cutK p T k ++ part p (crn T (k:Int)) (crn T ((k:Int)+1)) from rfl);have HLE:=hdd (jl p T k);obtain ⟨dd,hd⟩:∃ d,decide (ori (crn T (k:Int)) (crn T ((k:Int)+1)) p=0)=d:=⟨_,rfl⟩;rw [hd] at cM;have HDD:=hdd hd;clear hd;generalize crn T (k:Int)=u at *
   generalize crn T ((k:Int)+1)=v at *
   obtain ⟨L1,hL1⟩:∃ L1,cutK p T (k+1)=L1:=⟨_,rfl⟩;have HL1:=hdd hL1;rw [hL1] at HST;clear hL1;generalize cutK p T k=L0 at *
   have Gj:=J2 Bt.f Ba.f;go_wp2_with fail;refine (cE _).mono ?_;rintro e w4 ⟨rfl,hb⟩;clear Gj;replace Bt:=Bt.ee hb;replace Ba:=Ba.ee hb;replace hown:=yp hown hb;replace hw:=upB hw hb;clear hb cE;have Gj:=J2 Bt.f Ba.f;go_wp2_with fail;refine zI λW5 hW=>?_;have hl0:=hw.size;have lt:=Bt.lt;have la:=Ba.lt;replace Bt:Box W5 w [T.A.x,T.A.y,T.B.x,T.B.y,T.C.x,T.C.y] 45:=by rw [hW];exact (Bt.old _).old _
   replace Ba:Box W5 (w+1) [p.x,p.y] 34:=by rw [hW];exact (Ba.old _).old _
   have hb:Below w4 w4 W5:=by rw [hW];go_grown
   replace hown:=yp hown hb;replace hw:=upB hw hb;clear hW hb Gj;refine (cM _).mono ?_;rintro e w6 ⟨rfl,hb⟩;replace Bt:=Bt.ee hb;replace Ba:=Ba.ee hb;replace hown:=yp hown hb;replace hw:=upB hw hb;clear hb cM;generalize eM:mk u v p=X at *
   have HX:=hdd eM;clear eM;have Gj:=J2 Bt.f Ba.f
   go_upto_region 9 with (fail)
   refine zG λW7 hW=>?_;obtain ⟨bz,hbz⟩:∃ b,w6.heap.size=b:=⟨_,rfl⟩;rw [hbz];have lt6:=Bt.lt;rw [hbz] at lt6;have la6:=Ba.lt;rw [hbz] at la6;have hl6:=hw.size;rw [hbz] at hl6;have Bz:Box W7 bz [X.A.x,X.A.y,X.B.x,X.B.y,X.C.x,X.C.y] 45:=by rw [hW];exact Box.new hbz.symm
   replace Bt:Box W7 w [T.A.x,T.A.y,T.B.x,T.B.y,T.C.x,T.C.y] 45:=by rw [hW];exact Bt.old _
   replace Ba:Box W7 (w+1) [p.x,p.y] 34:=by rw [hW];exact Ba.old _
   have hb:Below w6 w6 W7:=by rw [hW];go_grown
   replace hown:=yp hown hb;replace hw:=upB hw hb;clear hW hb Gj hbz;have Gj:=J2 Bt.f Ba.f;cases dd with
   | true=>
    have HL:=hdd (show L1=L0 by rw [HST.o];unfold part;rw [JH (U0 HDD.o)];simp);clear HST;go_wp2
    go_roundw
    case rel=>exact ⟨k+1,by go_num,HLT.o,by rw [HL1.o,HL.o];exact hown,Bt,Ba,hw⟩
    case measure=>have h9:=HLT.o;simp [intOf];omega
   | false=>
    have HL:=hdd (show L1=L0 ++ [X] by rw [HST.o];unfold part;rw [J0 (of_decide_eq_false HDD.o),HX.o]);clear HST;have Fz:=Bz.f;have HB:=hdd hw.size;have HA:=hdd Ba.lt;go_wp2_with (at_builtin;refine yJ rfl _ _ rfl (w.heap.size+2) _ L0 rfl (hown.alloc _) (W7.heap.size) X rfl (Box.new (by simp)) (by have:=HLE.o;omega) (by have:=HB.o;have:=HA.o;simp;omega) ?_;intro w8 v8 hown8 hg8)
    have hlt:=λq hq=>((hown.alloc (.cells (cT X).toArray 45)).lt q hq).1;have Bt4:=(Bt.old (.cells (cT X).toArray 45)).grown2 hg8 (λq hq=>by have:=hlt q hq;omega);have Ba4:=(Ba.old (.cells (cT X).toArray 45)).grown2 hg8 (λq hq=>by have:=hlt q hq;omega);have hw4:=(hw.alloc hw.size (.cells (cT X).toArray 45)).grown hg8 (by have:=hw.size;simp;omega) (λq hq=>by have:=hlt q hq;omega)
    go_roundw
    case rel=>exact ⟨k+1,by go_num,HLT.o,by rw [HL1.o,HL.o];exact hown8,Bt4,Ba4,hw4⟩
    case measure=>have h9:=HLT.o;simp [intOf];omega
theorem remL_le (L:List Wl) (p q:Pt):(remL L p q).length<=L.length:=by
 unfold remL;split
 ·simp;omega
 ·exact JJ _
theorem addL_le (L:List Wl) (X:Wl):(addL L X).length<=L.length+1:=by
 unfold addL;split
 ·simp;omega
 ·omega
def halfL (D:List Wl) (p:Pt):List Wl:=match D.find? (onD p) with
 | some X=>addL (addL (remL D (lo2 X.A X.B) (hi2 X.A X.B)) ⟨X.A,p,X.K⟩) ⟨p,X.B,X.K⟩
 | none=>D
theorem XR {w:World} {sb:Nat} {v:Value} {L:List Wl} (S:SetAt w sb v L) {k:Nat} (hk:w.heap.size<=k):¬ Foot sb v k:=λh=>by
 rcases h with h | h
 ·have:=S.box.lt;omega
 ·have:=(S.row.lt k h).2;omega
theorem ua {w:World} {sb:Nat} {v v':Value} {n:Nat} (hf:Fresh v v' n) (hn:w.heap.size<=n):∀ k,Foot sb v' k->k < w.heap.size->Foot sb v k:=λk h hk=>by
 rcases h with h | h
 ·exact .inl h
 ·rcases hf k h with h2 | h2
  ·exact .inr h2
  ·omega
theorem ghalve_none (sb:Nat) (v:Value) (D:List Wl) (p:Pt) (hX:D.find? (onD p)=none) (w:World) (S:SetAt w sb v D):Calls prog 27 #[pt0 sb,p] w (Rt w (.tuple #[])):=by
 obtain ⟨a0,c0,_,R⟩:=S.rd;have cO:=λW S=>tG sb a0 c0 D.length D p W S;rw [<-KL R.ris R.good p,hX] at cO;unfold onV at cO;dsimp only at cO;have HR:=hdd R;clear R S hX
 go_enter func27,ntmps27
 go_wp2_with fail;refine zI λW1 hW=>?_;have hw:Below w w W1:=by rw [hW];go_grown
 clear hW;refine (cO _ (HR.o.ee hw)).mono ?_;rintro e w2 ⟨rfl,hb⟩;replace hw:=upB hw hb;clear hb cO;have hl:=hw.size;go_wp2;refine bodyPost_ret (v:=.tuple #[]) (by simp [results,results27,go_sem]) rfl ?_;exact ⟨rfl,by go_grown⟩
theorem ghalve_some (sb:Nat) (v:Value) (D:List Wl) (p:Pt) (X:Wl) (hX:D.find? (onD p)=some X) (hD:D.length<=900000) (e1:addE (remL D (lo2 X.A X.B) (hi2 X.A X.B)) ⟨X.A,p,X.K⟩=0) (e2:addE (addL (remL D (lo2 X.A X.B) (hi2 X.A X.B)) ⟨X.A,p,X.K⟩) ⟨p,X.B,X.K⟩=0) (w:World) (S:SetAt w sb v D):Calls prog 27 #[pt0 sb,p] w λe w'=>∃ v',e=.returned (.tuple #[])/\SetAt w' sb v' (halfL D p)/\Frm w w' (Foot sb v)/\Fresh v v' w.heap.size:=by
 obtain ⟨a0,c0,_,R⟩:=S.rd;have cO:=λW S=>tG sb a0 c0 D.length D p W S;rw [<-KL R.ris R.good p,hX] at cO;unfold onV at cO;dsimp only at cO;have HE:=hdd (show halfL D p=addL (addL (remL D (lo2 X.A X.B) (hi2 X.A X.B)) ⟨X.A,p,X.K⟩) ⟨p,X.B,X.K⟩ by unfold halfL;rw [hX]);have cR:=λv W S=>rem_any sb v D X.A X.B W S;have hl1:(remL D (lo2 X.A X.B) (hi2 X.A X.B)).length<=900000:=JY (remL_le D _ _) hD;generalize remL D (lo2 X.A X.B) (hi2 X.A X.B)=D1 at *
 generalize remE D (lo2 X.A X.B) (hi2 X.A X.B)=r0 at *
 have cA:=λv W S=>Xw sb v D1 ⟨X.A,p,X.K⟩ (by omega) W S;rw [e1] at cA;have hl2:(addL D1 ⟨X.A,p,X.K⟩).length<=900001:=JY (addL_le D1 _) (by omega);generalize addL D1 ⟨X.A,p,X.K⟩=D2 at *
 have cB:=λv W S=>Xw sb v D2 ⟨p,X.B,X.K⟩ (by omega) W S;rw [e2] at cB;generalize addL D2 ⟨p,X.B,X.K⟩=D3 at *
 dsimp only at cA cB;have HR:=hdd R;have HS:=hdd S;clear R S hX e1 e2 hD hl1 hl2
 go_enter func27,ntmps27
 go_wp2_with fail;refine qE1 λW1 Ba hw=>?_;refine (cO _ (HR.o.ee hw)).mono ?_;rintro e w2 ⟨rfl,hb⟩;obtain ⟨Ba,hw,-⟩:=qX1 Ba hw hb;clear hb cO;have Fa:=Ba.f;have la:=Ba.lt;go_wp2_with fail;refine zI λW3 hW=>?_;obtain ⟨bw,hbw⟩:∃ b,w2.heap.size=b:=⟨_,rfl⟩;rw [hbw] at la ⊢;have Bw:Box W3 bw [X.A.x,X.A.y,X.B.x,X.B.y,X.K] 71:=by rw [hW];exact Box.new hbw.symm
 replace Ba:Box W3 w [p.x,p.y] 34:=by rw [hW];exact Ba.old _
 have hb:Below w2 w2 W3:=by rw [hW];go_grown
 replace hw:=upB hw hb;clear hW hb Fa;have S3:=HS.o.ee hw;have lw:=Bw.lt;have la3:=Ba.lt;refine (cR _ _ S3).mono ?_;rintro e w4 ⟨v4,rfl,S4,F4,f4⟩;have hz:=hw.size;have n1:∀ k,w.heap.size<=k->¬ Foot sb v k:=λk hk=>XR HS.o hk;replace Ba:=F4.box Ba (n1 _ (JJ _));replace Bw:=F4.box Bw (n1 _ (by omega));have FF:Frm w w4 (Foot sb v):=(Frm.of_below hw).trans F4;have s4:=F4.size;clear cR F4;have Fa:=Ba.f;have Fw:=Bw.f;go_wp2_with fail;refine (cA _ _ S4).mono ?_;rintro e w5 ⟨v5,rfl,S5,F5,f5⟩;have n2:∀ k,w.heap.size<=k->k < W3.heap.size->¬ Foot sb v4 k:=λk h1 h2 h=>by
  rcases h with h | h
  ·exact n1 k h1 (.inl h)
  ·rcases f4 k h with h3 | h3
   ·exact n1 k h1 (.inr h3)
   ·omega
 clear Fa Fw;replace Ba:=F5.box Ba (n2 _ (JJ _) (by omega));replace Bw:=F5.box Bw (n2 _ (by omega) (by omega));replace FF:=FF.trans2 F5 (ua f4 hz);have f5':Fresh v v5 W3.heap.size:=λg hg=>by
  rcases f5 g hg with h | h
  ·exact f4 g h
  ·exact .inr (by omega)
 have s5:=F5.size;clear cA F5 S4 f5;have Fa:=Ba.f;have Fw:=Bw.f;go_wp2_with fail;refine (cB _ _ S5).mono ?_;rintro e w6 ⟨v6,rfl,S6,F6,f6⟩;replace FF:=FF.trans2 F6 (ua f5' hz);have f6':Fresh v v6 w.heap.size:=λg hg=>by
  rcases f6 g hg with h | h
  ·rcases f5' g h with h2 | h2
   ·exact .inl h2
   ·exact .inr (by omega)
  ·exact .inr (by omega)
 clear Fa Fw cB F6 S5 Ba Bw;go_wp2;exact bodyPost_end (results_none rfl _ _ _) rfl ⟨v6,rfl,by rw [HE.o];exact S6,FF,f6'⟩
theorem atCl (T:Tri3) (p:Pt) (pb:Nat) (w:World) (Bp:Box w pb [p.x,p.y] 34):Calls prog 54 #[T,pt0 pb] w (Rt w (.bool (hasP T p))):=by
 have ch:=Y0 T p;simp only [K8] at ch;generalize hasP T p=z at *
 have Fp:=Bp.f
 go_enter func54,ntmps54
 go_wp2_with fail;refine zI λW1 hW=>?_;have hw:Below w w W1:=by rw [hW];go_grown
 clear hW;refine (ch _).mono ?_;rintro e w2 ⟨rfl,hb⟩;have hw2:=(upB hw hb);clear hb hw ch Fp;go_wp2
 go_ret
 exact ⟨rfl,hw2⟩
theorem atEnter:∀ args w,(callFunc 54 args).run prog w=.ok (.enter 54 args) w:=enters_of func54 (by kernel_rfl) rfl
theorem Yc (mb b:Nat) (E:Es) (p:Pt) (hE:E.length<=1000000) (w:World) (Bm:Box w mb [.map (some b)] 83) (Hm:Hs w b E):Calls prog 24 #[pt0 mb,p] w λe w'=>∃ a cap,e=.returned (.slice a (srt cmpT (heads (λT=>hasP T p) E)).length cap)/\RowAt cT 6 w' a (srt cmpT (heads (λT=>hasP T p) E))/\Below w w w':=by
 obtain ⟨f,ef⟩:∃ f:Tri3->Bool,f=(λT=>hasP T p):=⟨_,rfl⟩;rw [<-ef];have cc:∀ (T:Tri3) (pb:Nat) (W:World),Box W pb [p.x,p.y] 34->Calls prog 54 #[T,pt0 pb] W λe w'=>e=.returned (.bool (f T))/\Below W W w':=λT pb W B=>by rw [ef];exact atCl T p pb W B
 clear ef
 go_enter func24,ntmps24
 go_wp2_with fail;refine zI λW1 hW=>?_;have Bp:Box W1 w [p.x,p.y] 34:=by rw [hW];exact Box.new rfl
 have hw:Below w w W1:=by rw [hW];go_grown
 clear hW;refine (ZV mb b E 54 #[pt0 w.heap.size] f hE W1 (Bm.ee hw) (Hm.ee hw) atEnter (λT W hW=>cc T _ W (Bp.ee hW))).mono ?_;rintro e w2 ⟨a,cap,rfl,hr,hb⟩;have hw2:=(upB hw hb);go_wp2
 go_ret
 exact ⟨a,cap,rfl,hr,hw2⟩
section
open Go.Lib Go.Shelf
def cE (e:Pt×Pt):List Value:=[.int .i64 e.1.x,.int .i64 e.1.y,.int .i64 e.2.x,.int .i64 e.2.y]
theorem K9 (e:Pt×Pt):(cE e).length=4:=rfl
theorem cE_one (e:Pt×Pt):∀ u∈cE e,u.oneCell'=true:=by
 intro u hu;unfold cE at hu;simp only [J1,JI,Jp] at hu;rcases hu with rfl | rfl | rfl | rfl <;> rfl
theorem info_edge:(prog.info? 113).map (λi=>(i.zero,i.size,i.bytes))=some (some (.agg #[(),(),(),()]),4,32):=by kernel_rfl
def ERow (w:World) (B:Nat) (v:Value) (K:List (Pt×Pt)):Prop:=w.ownsRow B 113 4 v K.length (K.flatMap cE)
theorem ERow.nil0 (w:World) (B:Nat):ERow w B (.slice none 0 0) []:=World.ownsRow_nil _ _ _ _
theorem ERow.row {w:World} {B:Nat} {v:Value} {K:List (Pt×Pt)} (h:ERow w B v K):∃ a cap,v=.slice a K.length cap/\RowAt cE 4 w a K:=xQ K9 h
theorem ERow.kept {w w':World} {B:Nat} {v:Value} {K:List (Pt×Pt)} {row:Option Nat} (h:ERow w B v K) (hg:w.grownBy w' row) (hne:v.ownBlock=none\/v.ownBlock≠row):ERow w' B v K:=World.ownsRow.kept h hg hne
theorem ERow.lt {w:World} {B:Nat} {v:Value} {K:List (Pt×Pt)} (h:ERow w B v K):∀ k,v.ownBlock=some k->B<=k/\k < w.heap.size:=World.ownsRow.lt h
theorem ERow.alloc {w:World} {B:Nat} {v:Value} {K:List (Pt×Pt)} (h:ERow w B v K) (o:Obj):ERow (w.alloc o) B v K:=World.ownsRow.alloc h o
theorem ERow.ext {w w':World} {B n:Nat} {v:Value} {K:List (Pt×Pt)} (h:ERow w B v K) (hb:Below n w w') (hn:n=w.heap.size):ERow w' B v K:=by
 refine ⟨h.1,?_⟩;rcases h.2 with h | ⟨g,cap,cur,h0,h1,h2,h3⟩
 ·exact .inl h
 ·refine .inr ⟨g,cap,cur,h0,h1,?_,h3⟩;have hl:g < w.heap.size:=(Q8.1 h2).1;rw [hb.block g (by omega)];exact h2
theorem ERow.ee {w w':World} {B:Nat} {v:Value} {K:List (Pt×Pt)} (h:ERow w B v K) (hb:Below w w w'):ERow w' B v K:=h.ext hb rfl
theorem ERow.pop {w:World} {B n:Nat} {v:Value} {K:List (Pt×Pt)} {e:Pt×Pt} (h:ERow w B v (K ++ [e])) (hn:K.length=n):∃ g cap,v=.slice (some ⟨g,0,none⟩) (n+1) cap/\n+1<=cap/\ERow w B (.slice (some ⟨g,0,none⟩) n cap) K:=by
 rcases h.2 with ⟨_,h0⟩ | ⟨g,cap,cur,h0,h1,h2,h3,h4,h5,h6⟩
 ·simp at h0
 ·have hl:(K ++ [e]).length=n+1:=by simp [hn]
  rw [hl] at h0 h3 h6;refine ⟨g,cap,h0,h3,zS K9 K,.inr ⟨g,cap,cur,by rw [hn],h1,h2,by omega,h4,h5,?_⟩⟩;have k:(cur.toList.take ((n+1) * 4)).take (n * 4)=((K ++ [e]).flatMap cE).take (n * 4):=by rw [h6]
  have lk:=zS K9 K;rw [hn] at lk;rw [List.take_take,Je,List.take_append_of_le_length (by omega),show min (n * 4) ((n+1) * 4)=n * 4 by omega,JV (l:=K.flatMap cE) (by omega)] at k;rw [hn];exact k
theorem ERow.pop2 {w:World} {B n:Nat} {v:Value} {K:List (Pt×Pt)} {e:Pt×Pt} (h:ERow w B v (K ++ [e])) (hn:K.length=n):∃ (ad:Addr) (cap:Nat),v=.slice (some ad) (n+1) cap/\n+1<=cap/\ERow w B (.slice (some ad) n cap) K/\RowAt cE 4 w (some ad) (K ++ [e]):=by
 obtain ⟨g,cap,rfl,h1,h2⟩:=h.pop hn;obtain ⟨a,c,e1,e2⟩:=h.row;simp only [Value.slice.injEq] at e1;obtain ⟨rfl,_,_⟩:=e1;exact ⟨_,cap,rfl,h1,h2,e2⟩
def Four (w:World) (A:Addr) (e:Pt×Pt):Prop:=A.block < w.heap.size/\w.cell? A=some (.int .i64 e.1.x)/\w.cell? ⟨A.block,A.off+1,none⟩=some (.int .i64 e.1.y)/\w.cell? ⟨A.block,A.off+2,none⟩=some (.int .i64 e.2.x)/\w.cell? ⟨A.block,A.off+3,none⟩=some (.int .i64 e.2.y)
theorem RowAt.edg {w:World} {a:Option Addr} {K:List (Pt×Pt)} (h:RowAt cE 4 w a K) {j:Nat} {e:Pt×Pt} (hj:K[j]? = some e):∃ ad A,a=some ad/\ad.add (j * 4)=A/\Four w A e:=by
 obtain ⟨ad,h1,h2,h3⟩:=h j e hj;have hb:(ad.add (j * 4)).block=ad.block:=zj _ _;have e0:=h3 0 _ rfl;have e1:=h3 1 _ rfl;have e2:=h3 2 _ rfl;have e3:=h3 3 _ rfl;simp only [Addr.add_zero',Addr.add_succ'] at e0 e1 e2 e3;exact ⟨ad,_,h1,rfl,by rw [hb];exact h2,e0,e1,e2,e3⟩
theorem Four.f {w:World} {A:Addr} {e:Pt×Pt} (h:Four w A e):(A.block=w.heap.size)=False/\w.cell? A=some (.int .i64 e.1.x)/\w.cell? ⟨A.block,A.off+1,none⟩=some (.int .i64 e.1.y)/\w.cell? ⟨A.block,A.off+2,none⟩=some (.int .i64 e.2.x)/\w.cell? ⟨A.block,A.off+3,none⟩=some (.int .i64 e.2.y):=⟨by simp;have:=h.1;omega,h.2⟩
theorem run_upto_edg (a:Option Addr) (n cap hi:Nat) (h1:hi<=cap) (w:World):(Instr.slice 110 (.slice a n cap) none (some (.int .i64 hi)) none).run prog w=.ok (.slice a hi cap) w:=by
 cases a <;> simp [Instr.slice,Instr.sliceBounds,Instr.sliceBound,asIntOf,run_underlying underlying110,go_sem,h1,Addr.add]
theorem YV {w:World} {ops:Array Oper} {rest:List Oper} {o:Oper} {a:Act} {Q:Exit->Act->World->Prop} (hgd:o.guard=none) (s x:Operand) (ho:o.op=.call { callee:=.builtin .append,args:=#[s,x],argTypes:=#[110,110] }) (B:Nat) (v:Value) (K:List (Pt×Pt)) (hs:a.eval s=v) (hown:ERow w B v K) (bx m:Nat) (U:List (Pt×Pt)) (hx:a.eval x=.slice (some ⟨bx,0,none⟩) m m) (hm:U.length=m) (hU:Box w bx (U.flatMap cE) 113) (hu0:m<=1000) (hn:K.length<=2000000) (hbase:B<=w.heap.size) (h:∀ w' v',ERow w' B v' (K ++ U)->w.grownBy w' v.ownBlock->wpList prog ops Q rest (a.put o.dst v') w'):wpList prog ops Q (o :: rest) a w:=by
 obtain ⟨i0,hi,hz0,hz1,hz2⟩:=info_parts info_edge;refine wpList_append_own w hgd s x 110 ho B 113 i0 _ 4 32 underlying110 hi hz0 hz1 hz2 rfl (by decide) v K.length _ hs hown ⟨bx,0,none⟩ m m (U.flatMap cE) hx (by rw [zS K9,hm]) ?_ ?_ ?_ ?_ hbase ?_
 ·intro j u hj;rw [Addr.add_lit,QJ];have:=hU.f.1 j;rw [hj] at this;exact this
 ·intro u hu;obtain ⟨X,_,hX⟩:=JO.1 hu;exact cE_one X u hX
 ·unfold maxLen;omega
 ·omega
 ·intro v' w' hown' hg _;refine h w' v' ?_ hg;unfold ERow;rw [JC,Je,hm];exact hown'
theorem SetRd.turn {w w':World} {sb c n b:Nat} {a0:Option Addr} {L:List Wl} {E:Es} (S:SetRd w sb a0 c n L) (H:Hs w b E) (hg:w.grownBy w' (some b)):SetRd w' sb a0 c n L:=
 ⟨S.box.turn H hg,S.row.turn cW_ne H hg,S.len,S.le,S.nc,S.flat,S.nil0,S.ris,S.good⟩
end
attribute [local go_sem ↓ 10000] run_upto_edg
section
open Go.Lib Go.Shelf
def mPot (h:Pt->Int) (L:List Tri3) (K:List (Pt×Pt)):Nat:=4 * (volS h L).toNat+K.length
theorem pot_pop {h:Pt->Int} {L:List Tri3} {K:List (Pt×Pt)} {e:Pt×Pt}:mPot h L K < mPot h L (K ++ [e]):=by unfold mPot;simp
theorem pot_flip {h:Pt->Int} {L L':List Tri3} {K:List (Pt×Pt)} {e p q c d:_} (h0:0<=volS h L') (hv:volS h L' < volS h L):mPot h L' (K ++ four p q c d) < mPot h L (K ++ [e]):=by unfold mPot four;simp;omega
theorem mend_w {n:Nat} (h:n<=2000000):wrap64 (n:Int)=n:=by rw [w64];omega
theorem fmend_any (mb b:Nat) (E0 E:Es) (L0 L:List Tri3) (sb:Nat) (a0:Option Addr) (c n:Nat) (Lw:List Wl) (W H:Int) (hW:W < 16777216) (hH:H < 16777216) (h:Pt->Int) (hh:Hts h) (v:Value) (K:List (Pt×Pt)) (n0:Nat) (w0:World) (Bm:Box w0 mb [.map (some b)] 83) (Hm0:Hs w0 b E0) (S:SetRd w0 sb a0 c n Lw) (w:World) (hg:w0.grownBy w (some b)) (Hm:Hs w b E) (hM:MSt W H h Lw L0 n0 E L K) (hn:n0+27 * (L0.length * L0.length)<=1000000) (hown:ERow w w0.heap.size v K):Calls prog 60 #[pt0 mb,pt0 sb,v] w λe w'=>e=.returned (.tuple #[])/\∃ E1 L1,w0.grownBy w' (some b)/\Hs w' b E1/\MSt W H h Lw L0 n0 E1 L1 []:=by
 have HN:=hdd hn;have HM:=hdd hM;have HW:=hdd hW;have HH:=hdd hH;have HHS:=hdd hh;clear hn hM hW hH hh
 go_enter func60,ntmps60
 go_wp2
 go_loopg [2,6,10] (mPot h L K+1) (λk v2 _ _ wr=>∃ (E1:Es) (L1:List Tri3) (K1:List (Pt×Pt)),ERow wr w0.heap.size v2 K1/\Hs wr b E1/\Hi (MSt W H h Lw L0 n0 E1 L1 K1)/\Hi (mPot h L1 K1 < k)/\w0.grownBy wr (some b))
 case atStart=>exact ⟨E,L,K,hown,Hm,HM,hdd (Nat.lt_succ_self _),hg⟩
 case round=>
  clear hown Hm HM hg;obtain ⟨E1,L1,K1,hown,Hm,HM,HP,hg⟩:=hrel;rcases List.eq_nil_or_concat K1 with rfl | ⟨K0,e,rfl⟩
  ·obtain ⟨a,cap,rfl,_⟩:=hown.row;go_wp2;exact bodyPost_end (results_none rfl _ _ _) rfl ⟨rfl,E1,L1,hg,Hm,HM.o⟩
  ·rw [List.concat_eq_append] at *;have HP2:=hdd (pot_pop (h:=h) (L:=L1) (K:=K0) (e:=e));have hlen:(K0 ++ [e]).length<=1000000:=JY HM.o.len HN.o;obtain ⟨nk,hn⟩:∃ z,K0.length=z:=⟨_,rfl⟩;have hn1:nk<=2000000:=by rw [<-hn];simp at hlen;omega
   obtain ⟨ad,cap,rfl,hcap,hpop,hrow⟩:=hown.pop2 hn;obtain ⟨ad2,A,ea,eA,hA⟩:=hrow.edg (j:=nk) (e:=e) (by rw [<-hn];simp);obtain rfl:ad=ad2:=JU ea;clear ea hown hrow hlen;have HNN:=hdd hn;clear hn;have hq:=mend_w hn1;have hq2:(nk:Int) < (nk:Int)+1:=by omega
   have hq3:(0:Int) < (nk:Int)+1:=by omega
   have hcap2:nk<=cap:=by omega
   obtain ⟨t4,t0,t1,t2,t3⟩:=hA.f;have hokE:=HM.o.ok e (by simp);have Bm1:=Bm.turn Hm0 hg;have S1:=S.turn Hm0 hg;have cb:=λW B H D=>XX mb b E1 sb a0 c n Lw e.1 e.2 hokE W B H D;have HBV:=hdd (show badP E1 Lw e.1 e.2=badP E1 Lw e.1 e.2 from rfl);have hw:=Below.refl wr.heap.size wr;go_wp2_with fail;clear t4 t0 t1 t2 t3 hA eA hq hq2 hq3;refine zI λW21 hW=>?_;obtain ⟨bkE,hbE⟩:∃ b,wr.heap.size=b:=⟨_,rfl⟩;rw [hbE];obtain ⟨fE,BE,hw⟩:=qM0 hW hbE hw;clear hW hbE;refine qK1 (cb _ (Bm1.ee hw) (Hm.ee hw) (S1.ee hw)) BE hw λw22 BE hw=>?_;clear cb;cases hb:badP E1 Lw e.1 e.2
   case false=>
    have HB:=hdd hb;clear hb;have HM2:=hdd (HM.o.pop HW.o HH.o S1.good HB.o);generalize badC E1 Lw e.1 e.2=bc at *
    obtain ⟨xE,yE,zE,vE⟩:=BE.f;go_wp2;clear xE yE zE vE
    go_roundg (mPot h L1 (K0 ++ [e]))
    case rel=>exact ⟨E1,L1,K0,((hpop.ee hw).alloc _).alloc _,((Hm.ee hw).alloc _).alloc _,HM2,HP2,zO (zO hg hw) (by go_grown)⟩
    case measure=>exact HP.o
   case true=>
    have HB:=hdd hb;clear hb;have HFL:=λE' L' r (g':Good E' L') (hf:FlipC E1 L1 e.1 e.2 r L')=>MSt.flip (p:=e.1) (q:=e.2) HHS.o HW.o HH.o S1.good HM.o HB.o g' hf;generalize badC E1 Lw e.1 e.2=bc at *
    have sE:(bkE=w22.heap.size+1)=False:=by have:=BE.lt;simp;omega
    obtain ⟨xE,yE,zE,vE⟩:=BE.f;go_wp2_with fail;clear xE yE zE vE;clear sE;refine zI λW23 hW=>?_;obtain ⟨bkC,hbC⟩:∃ b,w22.heap.size=b:=⟨_,rfl⟩;rw [hbC];have lEC:=BE.lt;rw [hbC] at lEC;have fC:=hw.size;rw [hbC] at fC;have BC:Box W23 (bkC) [.int .i64 bc.1.x,.int .i64 bc.1.y] 34:=by rw [hW,<-hbC];exact (Box.new rfl).old _
    have BD:Box W23 (bkC+1) [.int .i64 bc.2.x,.int .i64 bc.2.y] 34:=by rw [hW,<-hbC];exact Box.new (by simp)
    replace BE:Box W23 (bkE) [.int .i64 e.1.x,.int .i64 e.1.y,.int .i64 e.2.x,.int .i64 e.2.y] 113:=by rw [hW];exact ((BE).old _).old _
    replace hw:Below wr wr W23:=by have hl:=hw.size;rw [hW];go_grown
    clear hW hbC;have Hm1:=Hm.ee hw;have hp1:=hpop.ee hw;have hg1:=zO hg hw;refine (mflip_any mb b E1 L1 HM.o.good e.1 e.2 hokE _ (Bm1.ee hw) Hm1).mono ?_;rintro e9 w9 ⟨r,E2,L2,rfl,hg9,Hm9,G2,FC⟩;obtain ⟨rfl,hvol,HM2⟩:=HFL E2 L2 r G2 FC;replace BE:=BE.turn Hm1 hg9;replace BC:=BC.turn Hm1 hg9;replace BD:=BD.turn Hm1 hg9;have hp9:=hp1.kept hg9 (.inr (yF hp1 Hm1).symm);replace hg1:=zR hg1 hg9;have HM3:=hdd HM2;have HP3:=hdd (pot_flip (K:=K0) (e:=e) (p:=e.1) (q:=e.2) (c:=bc.1) (d:=bc.2) (HM2.tiles.vols HW.o HH.o HHS.o) hvol);have HMe:=hdd (show K0.length<=2000000 from by rw [HNN.o];exact hn1);clear HFL G2 FC HM2 hvol hg9 Hm1 hp1 hw Hm;have hlt0:=λq hq=>(hp9.lt q hq).1;have hs9:=hg1.size;obtain ⟨xE,yE,zE,vE⟩:=BE.f;obtain ⟨xC,yC,zC,vC⟩:=BC.f;obtain ⟨xD,yD,zD,vD⟩:=BD.f;go_wp2_with (at_builtin;refine YV rfl _ _ rfl w0.heap.size _ K0 rfl (hp9.alloc _) w9.heap.size 4 (four e.1 e.2 bc.1 bc.2) rfl rfl (Box.new rfl) (by decide) HMe.o (by simp;omega) ?_;intro w10 v10 hown10 hg10)
    clear xE yE zE vE xC yC zC vC xD yD zD vD;have HA:Hs (w9.alloc (.cells #[.int .i64 e.1.x,.int .i64 e.1.y,.int .i64 bc.1.x,.int .i64 bc.1.y,.int .i64 bc.1.x,.int .i64 bc.1.y,.int .i64 e.2.x,.int .i64 e.2.y,.int .i64 e.2.x,.int .i64 e.2.y,.int .i64 bc.2.x,.int .i64 bc.2.y,.int .i64 bc.2.x,.int .i64 bc.2.y,.int .i64 e.1.x,.int .i64 e.1.y] 113)) b E2:=Hm9.alloc _;have Hm10:=HA.kept hg10 (yF (hp9.alloc _) HA);have hg2:=uU (zO hg1 (show Below w9 w9 (w9.alloc (.cells #[.int .i64 e.1.x,.int .i64 e.1.y,.int .i64 bc.1.x,.int .i64 bc.1.y,.int .i64 bc.1.x,.int .i64 bc.1.y,.int .i64 e.2.x,.int .i64 e.2.y,.int .i64 e.2.x,.int .i64 e.2.y,.int .i64 bc.2.x,.int .i64 bc.2.y,.int .i64 bc.2.x,.int .i64 bc.2.y,.int .i64 e.1.x,.int .i64 e.1.y] 113)) by go_grown)) hg10 hlt0;clear hg10 HA;go_wp2
    go_roundg (mPot h L1 (K0 ++ [e]))
    case rel=>exact ⟨E2,L2,_,hown10,Hm10,HM3,HP3,hg2⟩
    case measure=>exact HP.o
end
section
open Go.Lib Go.Shelf
theorem ERow.base {w:World} {B B':Nat} {v:Value} {K:List (Pt×Pt)} (h:ERow w B v K) (hb:B'<=B):ERow w B' v K:=by
 refine ⟨h.1,?_⟩;rcases h.2 with h | ⟨g,cap,cur,h0,h1,h2⟩
 ·exact .inl h
 ·exact .inr ⟨g,cap,cur,h0,JY hb h1,h2⟩
def wEdg (x:Wl):Pt×Pt:=(x.A,x.B)
def FRep (W H:Int) (b:Nat) (Lw:List Wl) (L:List Tri3) (w:World) (e:Ending) (w':World):Prop:=
 e=.returned (.int .i64 0)/\∃ E1 L1,w.grownBy w' (some b)/\Hs w' b E1/\RSt W H Lw L E1 L1/\Fixed W H (wll Lw) L1
theorem fRepair_any (mb b:Nat) (E:Es) (L:List Tri3) (sb:Nat) (a0:Option Addr) (c n:Nat) (Lw:List Wl) (W H:Int) (hW:W < 16777216) (hH:H < 16777216) (hL:L.length<=94) (gE:Good E L) (ti:Tiles W H L) (w:World) (Bm:Box w mb [.map (some b)] 83) (Hm:Hs w b E) (S:SetRd w sb a0 c n Lw):Calls prog 28 #[pt0 mb,pt0 sb] w (FRep W H b Lw L w):=by
 obtain ⟨h,hh⟩:=Kw;have hE:E.length<=300:=by rw [gE.len];omega
 have hl0:=FB_le E Lw;have hLL:L.length * L.length<=94 * 94:=UP hL hL;have HMS:=hdd (show MSt W H h Lw L ((FB E Lw).map wEdg).length E L ((FB E Lw).map wEdg) from ⟨gE,ti,Kept.refl _ _,FB_okW hW hH gE ti S.good,λx y hb=>FB_cov hW hH gE ti S.good hb,[],UL,λe (he:e∈[])=>(by cases he),by simp⟩);have HNN:=hdd (show ((FB E Lw).map wEdg).length+27 * (L.length * L.length)<=1000000 by rw [Qz];omega);have HG:=hdd S.good;have HH:=hdd (show (Hts h/\W < 16777216/\H < 16777216) from ⟨hh,hW,hH⟩);have hok:∀ e∈E,okT e.2:=λe he=>by
  obtain ⟨ww,T⟩:=e;exact ye (gE.val T (kw.1 (gE.perm.mem_iff.1 he)).1)
 have cb:=fBad_any mb b E sb a0 c n Lw (by omega) hok w Bm Hm S;have hFl:(FB E Lw).length<=1000:=by omega
 clear hok hE hl0 hLL hL hh hW hH gE ti;generalize FB E Lw=F at *
 go_enter func28,ntmps28
 go_wp2_with fail;refine cb.mono ?_;rintro e w2 ⟨v,rfl,hr,hw⟩;obtain ⟨a,cap,rfl,hrow,_⟩:=hr.row;obtain ⟨m,hm⟩:∃ m,F.length=m:=⟨_,rfl⟩;rw [hm] at hFl ⊢;have HF:=hdd hm;clear cb hr hm;go_wp2_with fail
 go_loopw [5,18] (λv5 vi wr=>∃ k:Nat,k<=m/\vi=.int .i64 k/\ERow wr w2.heap.size v5 ((F.take k).map wEdg)/\Below w2 w2 wr) (λ_ vi _=>m - (intOf vi).toNat)
 case atStart=>exact ⟨0,Jl _,rfl,by simpa using ERow.nil0 _ _,Below.refl _ _⟩
 case round=>
  obtain ⟨k,hk,rfl,hown,hwr⟩:=hrel;by_cases hlt:k < m
  ·have hkF:k < F.length:=by rw [HF.o];exact hlt
   obtain ⟨ad,A,ea,eA,hA⟩:=(hrow.ee hwr).five (j:=k) hkF;have HT:=hdd (show (F.take (k+1)).map wEdg=(F.take k).map wEdg ++ [wEdg F[k]] by rw [JK hkF,QC];rfl);have hle:((F.take k).map wEdg).length<=2000000:=by rw [Qz,Jc];omega
   generalize F[k]=X at *
   obtain ⟨t5,t0,t1,t2,t3,t4⟩:=hA.f;have hlt0:=λq hq=>(hown.lt q hq).1;have hs2:=hwr.size;subst ea;go_wp2_with (at_builtin;refine YV rfl _ _ rfl w2.heap.size _ _ rfl ((hown.alloc _).alloc _) (wr.heap.size+1) 1 [wEdg X] rfl rfl (Box.new (by simp)) (by decide) hle (by simp;omega) ?_;intro w4 v4 hown4 hg4)
   have hw4:=((hwr.alloc hwr.size (.cells #[X.A.x,X.A.y,X.B.x,X.B.y,X.K] 71)).alloc (by simp;omega) (.cells #[X.A.x,X.A.y,X.B.x,X.B.y] 113)).grown hg4 (by simp;omega) (λq hq=>by have:=hlt0 q hq;omega);clear hg4 hlt0 t5 t0 t1 t2 t3 t4 hA hown;go_wp2
   go_roundw
   case rel=>exact ⟨k+1,hlt,by go_num,by rw [HT.o];exact hown4,hw4⟩
   case measure=>simp [intOf];omega
  ·obtain rfl:k=m:=by omega
   rw [JV (by rw [HF.o];omega)] at hown;have hw3:=(upB hw hwr);have cm:=fmend_any mb b E E L L sb a0 c n Lw W H HH.o.2.1 HH.o.2.2 h HH.o.1 _ _ _ w Bm Hm S wr (zM hw3 _) (Hm.ee hw3) HMS.o HNN.o (hown.base hw.size);go_wp2_with fail;refine cm.mono ?_;rintro e w5 ⟨rfl,E1,L1,hg5,H5,M5⟩;have HM5:=hdd M5;clear cm M5;go_wp2
   go_ret
   exact ⟨rfl,E1,L1,hg5,H5,⟨HM5.o.good,HM5.o.tiles,HM5.o.kept⟩,HM5.o.fixed HG.o⟩
end
theorem row_flatT {w:World} {b off:Nat} {L:List Tri3} (h:RowAt cT 6 w (some ⟨b,off,none⟩) L):∀ {t:Nat} {u:Value},(L.flatMap cT)[t]? = some u->w.cell? ⟨b,off+t,none⟩=some u:=λ{t u} hu=>by
 have ht:t < L.length * 6:=by have:=(JR.1 hu).1;rwa [zS ks] at this
 have hj:t / 6 < L.length:=by omega
 have e:=yL ks L (t / 6) (t % 6) L[t / 6] (JG hj) (by omega);rw [show t / 6 * 6+t % 6=t by omega,hu] at e;obtain ⟨ad,h1,h2,h3⟩:=h (t / 6) _ (JG hj);have h4:=h3 (t % 6) u e.symm;obtain rfl:=JU h1;rw [Addr.add_lit,Addr.add_lit] at h4;rw [show off+t / 6 * 6+t % 6=off+t by omega] at h4;exact h4
theorem append_trow {w:World} {ops:Array Oper} {rest:List Oper} {o:Oper} {a:Act} {Q:Exit->Act->World->Prop} (hgd:o.guard=none) (s x:Operand) (ho:o.op=.call { callee:=.builtin .append,args:=#[s,x],argTypes:=#[38,38] }) (B:Nat) (v:Value) (L:List Tri3) (hs:a.eval s=v) (hown:w.ownsRow B 45 6 v L.length (L.flatMap cT)) (bx cap:Nat) (U:List Tri3) (hx:a.eval x=.slice (some ⟨bx,0,none⟩) U.length cap) (hU:RowAt cT 6 w (some ⟨bx,0,none⟩) U) (hu0:U.length<=1000) (hn:L.length<=1000000) (hbase:B<=w.heap.size) (h:∀ w' v',w'.ownsRow B 45 6 v' (L ++ U).length ((L ++ U).flatMap cT)->w.grownBy w' v.ownBlock->wpList prog ops Q rest (a.put o.dst v') w'):wpList prog ops Q (o :: rest) a w:=by
 obtain ⟨i0,hi,hz0,hz1,hz2⟩:=info_parts XH;refine wpList_append_own w hgd s x 38 ho B 45 i0 _ 6 48 underlying38 hi hz0 hz1 hz2 rfl (by decide) v L.length _ hs hown ⟨bx,0,none⟩ U.length cap (U.flatMap cT) hx (zS ks U) ?_ ?_ ?_ ?_ hbase ?_
 ·intro j u hj;rw [Addr.add_lit,QJ];have h9:=row_flatT hU hj
  rwa [QJ] at h9
 ·intro u hu;obtain ⟨X,_,hX⟩:=JO.1 hu;exact Kx X u hX
 ·unfold maxLen;omega
 ·omega
 ·intro v' w' hown' hg _;refine h w' v' ?_ hg;rw [JC,Je];exact hown'
theorem gpoint_none (mb b sb:Nat) (E:Es) (p:Pt) (hE:E.length<=1000000) (hat:atE E p=[]) (w:World) (Bm:Box w mb [.map (some b)] 83) (Hm:Hs w b E):Calls prog 7 #[pt0 mb,pt0 sb,p] w (Rt w (.int .i64 1)):=by
 have cA:=λW B H=>Yc mb b E p hE W B H
 change ∀ (W:World) B H,Calls _ _ _ _ λe w'=>∃ a cap,e=.returned (.slice a (atE E p).length cap)/\RowAt cT 6 w' a (atE E p)/\Below W W w' at cA
 rw [hat] at cA;clear hat
 go_enter func7,ntmps7
 go_wp2_with fail;refine zI λW1 hW=>?_;have hw:Below w w W1:=by rw [hW];go_grown
 clear hW;refine (cA _ (Bm.ee hw) (Hm.ee hw)).mono ?_;rintro e w2 ⟨a2,c2,rfl,hr,hb⟩;rw [Qs];replace hw:=upB hw hb;clear hb cA hr;go_wp2
 go_ret
 exact ⟨rfl,hw⟩
theorem gpoint_have (mb b sb:Nat) (E:Es) (p:Pt) (hE:E.length<=1000000) (hat:atE E p≠[]) (hall:∀ T∈atE E p,isCb p T=true) (w:World) (Bm:Box w mb [.map (some b)] 83) (Hm:Hs w b E):Calls prog 7 #[pt0 mb,pt0 sb,p] w (Rt w (.int .i64 5)):=by
 have cA:=λW B H=>Yc mb b E p hE W B H
 change ∀ (W:World) B H,Calls _ _ _ _ λe w'=>∃ a cap,e=.returned (.slice a (atE E p).length cap)/\RowAt cT 6 w' a (atE E p)/\Below W W w' at cA
 generalize atE E p=L at *
 obtain ⟨n,hn⟩:∃ n,L.length=n:=⟨_,rfl⟩;have hn0:0 < n:=by rw [<-hn];exact VK.2 hat
 have hnz:¬ (n:Int)=0:=by omega
 have hnp:(0:Int) < (n:Int):=by omega
 have h0L:0 < L.length:=by omega
 have hcb:=hall _ (JX h0L);rw [hn] at cA;have HN:=hdd hn;clear hat hall hn
 go_enter func7,ntmps7
 go_wp2_with fail;refine qE1 λW1 Ba hw=>?_;refine (cA _ (Bm.ee hw) (Hm.ee hw)).mono ?_;rintro e w2 ⟨a2,c2,rfl,hr,hb⟩;obtain ⟨Ba,hw,-⟩:=qX1 Ba hw hb;clear hb cA;obtain ⟨ad,A,ea,eA,hA⟩:=hr.six (j:=0) h0L;have cC:=uW L[0] p;rw [hcb] at cC;generalize L[0]=T at *
 rw [show ad.add (0 * 6)=ad from by simp [Addr.add]] at eA;subst eA ea;have Fa:=Ba.f;have FA:=hA.f;have la:=Ba.lt;go_wp2_with fail;refine wp_loop_rounds 2 ?_;try rw [rounds_succ]
 go_wp2_with fail;refine zI λW3 hW=>?_;have hb:Below w2 w2 W3:=by rw [hW];go_grown
 replace hw:=upB hw hb;clear hW hb Fa FA;refine (cC _).mono ?_;rintro e w4 ⟨rfl,hb⟩;replace hw:=upB hw hb;clear hb cC;go_wp2
 go_ret
 exact ⟨rfl,hw⟩
theorem tX {p:Pt} {L:List Tri3} (hl:L.length<=2) {k:Nat}:((L.take k).flatMap (cutS p)).length<=1000000:=by
 have main:∀ M:List Tri3,(M.flatMap (cutS p)).length<=3 * M.length:=λM=>by
  induction M with
  | nil=>simp
  | cons T M ih=>
   have h1:(cutS p T).length<=3:=by
    unfold cutS cutR;rw [(zU _).length_eq];split
    ·exact jk p T
    ·simp
   rw [JE,JC,JW];omega
 have h2:=main (L.take k);rw [Jc] at h2;omega
theorem gp_n {k n:Nat} (h:k < n) (hn:n<=1000000):Value.int .i64 (wrap64 ((k:Int)+1))=.int .i64 ((k+1:Nat):Int):=by rw [show wrap64 ((k:Int)+1)=(k:Int)+1 by rw [w64];omega];rfl
theorem gp_meas {k n:Nat} (h:k < n) (hn:n<=1000000):n - (intOf (.int .i64 (wrap64 ((k:Int)+1)))).toNat < n - (intOf (.int .i64 (k:Int))).toNat:=by rw [show wrap64 ((k:Int)+1)=(k:Int)+1 by rw [w64];omega];simp [intOf];omega
def GPost (W H:Int) (b sb:Nat) (v:Value) (D:List Wl) (L1:List Tri3) (p:Pt) (w:World) (e:Ending) (w':World):Prop:=
 e=.returned (.int .i64 0)/\∃ E' L' v',Hs w' b E'/\SetAt w' sb v' (halfL D p)/\RSt W H (halfL D p) L1 E' L'/\Fixed W H (wll (halfL D p)) L'/\Frm w w' (λk=>k=b\/Foot sb v k)/\Fresh v v' w.heap.size
theorem gpoint_ok (mb b sb:Nat) (E:Es) (p:Pt) (W H:Int) (hW:W < 16777216) (hH:H < 16777216) (v:Value) (D:List Wl) (hE:E.length<=1000000) (hat:atE E p≠[]) (hlen:(atE E p).length<=2) (hA:∀ T∈atE E p,okT T/\hasP T p=true/\isCb p T=false/\0 < (cutP p T).length/\cutS p T=srt cmpT (cutP p T)/\∀ U∈cutS p T,okT U) (h1:(takeRun E (atE E p)).1=(atE E p).length) (h2:(putRun (takeRun E (atE E p)).2 ((atE E p).flatMap (cutS p))).1=((atE E p).flatMap (cutS p)).length) (L1:List Tri3) (g1:Good (putRun (takeRun E (atE E p)).2 ((atE E p).flatMap (cutS p))).2 L1) (t1:Tiles W H L1) (hL1:L1.length<=94) (hD:D.length<=900000) (hhalf:∀ X,D.find? (onD p)=some X->addE (remL D (lo2 X.A X.B) (hi2 X.A X.B)) ⟨X.A,p,X.K⟩=0/\addE (addL (remL D (lo2 X.A X.B) (hi2 X.A X.B)) ⟨X.A,p,X.K⟩) ⟨p,X.B,X.K⟩=0) (w:World) (Bm:Box w mb [.map (some b)] 83) (Hm:Hs w b E) (S:SetAt w sb v D) (hms:¬ Foot sb v mb):Calls prog 7 #[pt0 mb,pt0 sb,p] w (GPost W H b sb v D L1 p w):=by
 have cA:=λW B H=>Yc mb b E p hE W B H
 change ∀ (W:World) B H,Calls _ _ _ _ λe w'=>∃ a cap,e=.returned (.slice a (atE E p).length cap)/\RowAt cT 6 w' a (atE E p)/\Below W W w' at cA
 generalize atE E p=L at *
 obtain ⟨n,hn⟩:∃ n,L.length=n:=⟨_,rfl⟩;have hn0:0 < n:=by rw [<-hn];exact VK.2 hat
 have hnz:((n:Int) == 0)=false:=by rw [beq_eq_false_iff_ne];omega
 have HL:=hdd (show n<=2 by omega);rw [hn] at cA;have HN:=hdd hn;have HA:=hdd hA;have HT:=hdd (show (takeRun E L).1=L.length/\(putRun (takeRun E L).2 (L.flatMap (cutS p))).1=(L.flatMap (cutS p)).length from ⟨h1,h2⟩);have HG:=hdd g1;have HQ:=hdd (show W < 16777216/\H < 16777216/\L1.length<=94/\D.length<=900000 from ⟨hW,hH,hL1,hD⟩);have HTI:=hdd t1;have HHF:=hdd hhalf;have HMS:=hdd hms;have HS:=hdd S;clear hat hA h1 h2 g1 t1 hhalf hms S hW hH hL1 hD hn hlen
 go_enter func7,ntmps7
 go_wp2_with fail;refine qE1 λW1 Ba hw=>?_;refine (cA _ (Bm.ee hw) (Hm.ee hw)).mono ?_;rintro e w2 ⟨a2,c2,rfl,hr,hb⟩;obtain ⟨Ba,hw,-⟩:=qX1 Ba hw hb;clear hb cA;have Fa:=Ba.f;go_wp2_with fail
 go_loopw [8,26] (λvl vi wr=>∃ k:Nat,vi=.int .i64 k/\k<=n/\wr.ownsRow w2.heap.size 45 6 vl ((L.take k).flatMap (cutS p)).length (((L.take k).flatMap (cutS p)).flatMap cT)/\Below w2 w2 wr) (λ_ vi _=>n - (intOf vi).toNat)
 case atStart=>exact ⟨0,rfl,Jl _,World.ownsRow_nil _ _ _ _,Below.refl _ _⟩
 case round=>
  clear Fa;obtain ⟨k,rfl,hk,hown,hwr⟩:=hrel;replace Ba:=Ba.ee hwr;by_cases hlt:k < n
  case pos=>
   have HLT:=hdd hlt;have hq0:(k:Int) < (n:Int):=by omega
   have hkL:k < L.length:=by rw [HN.o];exact hlt
   obtain ⟨ad,A,ea,eA,hSix⟩:=(hr.ee hwr).six (j:=k) hkL;have HST:=hdd (show (L.take (k+1)).flatMap (cutS p)=(L.take k).flatMap (cutS p) ++ cutS p L[k] by rw [JK hkL,Je];simp);obtain ⟨_,hh,hcb,hne,hcut,_⟩:=HA.o _ (JX hkL);have HLE:=hdd (show ((L.take k).flatMap (cutS p)).length<=1000000 from tX (by have:=HL.o;have:=HN.o;omega));have HCL:=hdd (jk p L[k]);have cC:=uW L[k] p;rw [hcb] at cC;have cK:=λW=>XP L[k] p hh hcb hne W;rw [hcut] at HST;generalize L[k]=T at *
   have HSL:=hdd (show (srt cmpT (cutP p T)).length<=3 by rw [(zU _).length_eq];exact HCL.o);generalize srt cmpT (cutP p T)=U at *
   generalize (L.take k).flatMap (cutS p)=P0 at *
   clear hh hcb hne hcut HCL;subst ea;have Fa:=Ba.f;have FS:=hSix.f;go_wp2_with fail;refine zI λW3 hW=>?_;obtain ⟨bt,hbt⟩:∃ b,wr.heap.size=b:=⟨_,rfl⟩;rw [hbt];have lt:=Ba.lt;rw [hbt] at lt;have lr:=hwr.size;rw [hbt] at lr;have Bt:Box W3 bt [T.A.x,T.A.y,T.B.x,T.B.y,T.C.x,T.C.y] 45:=by rw [hW];exact Box.new hbt.symm
   have Ba3:Box W3 w [p.x,p.y] 34:=by rw [hW];exact Ba.old _
   have hb:Below wr wr W3:=by rw [hW];go_grown
   replace hown:=yp hown hb;replace hwr:=upB hwr hb;clear hW hb Fa FS hSix;refine (cC _).mono ?_;rintro e w4 ⟨rfl,hb⟩;replace Bt:=Bt.ee hb;replace Ba3:=Ba3.ee hb;replace hown:=yp hown hb;replace hwr:=upB hwr hb;clear hb cC;have Ft:=Bt.f;have Fa:=Ba3.f;go_wp2_with fail;refine (cK _).mono ?_;rintro e w5 ⟨g,cg,rfl,hrU,hg,hb⟩;clear Ft Fa;replace Bt:=Bt.ee hb;replace Ba3:=Ba3.ee hb;replace hown:=yp hown hb;replace hwr:=upB hwr hb;clear hb cK;have HBS:=hdd hwr.size;go_wp2_with (at_builtin;refine append_trow rfl _ _ rfl w2.heap.size _ P0 rfl hown g cg U rfl hrU (by have:=HSL.o;omega) HLE.o HBS.o ?_;intro w6 v6 hown6 hg6)
   have hw6:=hwr.grown hg6 hwr.size (λq hq=>(hown.lt q hq).1)
   go_roundw
   case rel=>exact ⟨k+1,gp_n HLT.o (by have:=HL.o;omega),HLT.o,by rw [HST.o];exact hown6,hw6⟩
   case measure=>exact gp_meas HLT.o (by have:=HL.o;omega)
  case neg=>
   have hkn:k=n:=by omega
   subst hkn;have hin:¬ (k:Int) < (k:Int):=by omega
   rw [JV (by rw [HN.o];exact JJ _)] at hown;obtain ⟨a4,c4,rfl,hrP⟩:=xQ ks hown;have hrL:=hr.ee hwr;have hwB:=(upB hw hwr);obtain ⟨m,hm⟩:∃ m,(L.flatMap (cutS p)).length=m:=⟨_,rfl⟩;have hm3:m<=1000000:=by
    have h9:=tX (p:=p) (L:=L) (by have:=HL.o;have:=HN.o;omega) (k:=L.length);rw [List.take_length] at h9;omega
   have hok2:∀ U∈L.flatMap (cutS p),okT U:=λU hU=>by
    obtain ⟨T,hT,hU2⟩:=JO.1 hU;exact (HA.o T hT).2.2.2.2.2 U hU2
   have cR:=λW B H r1 r2=>tB mb b E a2 a4 c2 c4 k m L (L.flatMap (cutS p)) HN (by have:=HL.o;omega) (λT hT=>(HA.o T hT).1) (hdd hm) hm3 hok2 (HT.o.1.trans HN.o) (HT.o.2.trans hm) W B H r1 r2;rw [hm];clear hm3 hok2 hm hown;generalize (putRun (takeRun E L).2 (L.flatMap (cutS p))).2=E6 at *
   have Fa:=Ba.f;go_wp2_with fail;refine (cR _ (Bm.ee hwB) (Hm.ee hwB) hrL hrP).mono ?_;rintro e w6 ⟨rfl,hg6,H6⟩;have H0:=Hm.ee hwB;have S0:=HS.o.ee hwB;have ns:sb≠b:=S0.box.ne_map H0;have no:some b≠v.ownBlock:=yF S0.row H0;have B6:=(Bm.ee hwB).turn H0 hg6;have Ba6:=Ba.turn H0 hg6;have S6:=S0.keep (Frm.of_grown hg6 (p:=λq=>q=b) (λg e=>(JU e).symm)) ns (λg hg e=>no (by rw [hg,e]));have FF:Frm w w6 (λq=>q=b\/Foot sb v q):=(Frm.of_below hwB).trans (Frm.of_grown hg6 (λg e=>.inl (JU e).symm));have nb:¬ Foot sb v b:=λh=>by
    rcases h with h | h
    ·exact ns h.symm
    ·exact no h.symm
   clear Fa cR hrL hrP H0 S0 hg6 hwr Ba hr;have Fa:=Ba6.f;go_wp2_with fail;cases hX:D.find? (onD p)
   case' none=>
    refine (ghalve_none sb v D p hX w6 S6).mono ?_;rintro e w7 ⟨rfl,hb⟩;have S7:SetAt w7 sb v (halfL D p):=by unfold halfL;rw [hX];exact S6.ee hb
    have H7:=H6.ee hb;have B7:=B6.ee hb;replace FF:=FF.trans (Frm.of_below hb);obtain ⟨v7,hv7⟩:∃ x,x=v:=⟨v,rfl⟩;rw [<-hv7] at S7;have f7:Fresh v v7 w.heap.size:=λg hg=>.inl (by rw [<-hv7];exact hg);clear hb hv7
   case' some X=>
    refine (ghalve_some sb v D p X hX HQ.o.2.2.2 (HHF.o X hX).1 (HHF.o X hX).2 w6 S6).mono ?_;rintro e w7 ⟨v7,rfl,S7,F7,f6⟩;have H7:Hs w7 b E6:=by
     have hl:=H6.lt;obtain ⟨es,clk,h1,r⟩:=H6;exact ⟨es,clk,by rw [F7.block b hl nb];exact h1,r⟩
    have B7:=F7.box B6 HMS.o;have s6:=FF.size;replace FF:=FF.trans2 F7 (λq h _=>.inr h);have f7:Fresh v v7 w.heap.size:=λg hg=>by
     rcases f6 g hg with h | h
     ·exact .inl h
     ·exact .inr (by omega)
    clear F7 f6 s6
   all_goals
    clear Fa S6 H6 B6 Ba6 nb no;obtain ⟨aS,cS,hvS,R7⟩:=S7.rd;have cr:=fRepair_any mb b E6 L1 sb aS cS _ (halfL D p) W H HQ.o.1 HQ.o.2.1 HQ.o.2.2.1 HG.o HTI.o w7 B7 H7 R7;clear R7 hvS;go_wp2_with fail;refine cr.mono ?_;rintro e w8 ⟨rfl,E8,L8,hg8,H8,R8,X8⟩;have no7:some b≠v7.ownBlock:=yF S7.row H7;have S8:=S7.keep (Frm.of_grown hg8 (p:=λq=>q=b) (λg e=>(JU e).symm)) ns (λg hg e=>no7 (by rw [hg,e]));have F8:=FF.trans2 (Frm.of_grown hg8 (p:=λq=>q=b) (λg e=>(JU e).symm)) (λq h _=>.inl h);have HR8:=hdd R8;have HX8:=hdd X8;clear cr hg8 R8 X8 S7 H7 B7;go_wp2
    go_ret
    exact ⟨rfl,E8,L8,v7,H8,S8,HR8.o,HX8.o,F8,f7⟩
theorem Xb {T:Tri3} {p:Pt} (hv:valT T) (vp:vld p) (hh:hasT T p):0 < (cutP p T).length:=by
 obtain ⟨va,vb,vc,hD⟩:=k8 hv;obtain ⟨h1,h2,h3⟩:=hh;have hs:=qn T.A T.B T.C p;unfold cutP;simp only [JC];by_cases k1:0 < det T.A T.B p
 ·rw [zy va vb vp k1];simp only [QB];omega
 ·by_cases k2:0 < det T.B T.C p
  ·rw [zy vb vc vp k2];simp only [QB];omega
  ·have k3:0 < det T.C T.A p:=by omega
   rw [zy vc va vp k3];simp only [QB];omega
theorem Xa {T:Tri3} {p:Pt} (hh:hasP T p) (hc:isCb p T=false):cutS p T=srt cmpT (cutP p T):=by
 have:cutOk T p=true:=by
  have hc':¬ isCnr T p:=λk=>by rw [km.2 k] at hc;cases hc
  unfold cutOk isCnr at *;simp only [UG] at hc';rw [hh,yM.2 hc'.1,yM.2 hc'.2.1,yM.2 hc'.2.2];rfl
 unfold cutS cutR;rw [JH this]
def GAddPost (W H:Int) (b sb:Nat) (v:Value) (E:Es) (L:List Tri3) (D:List Wl) (p:Pt) (w:World) (e:Ending) (w':World):Prop:=
 ∃ r E' L' D' v',e=.returned (.int .i64 r)/\Hs w' b E'/\SetAt w' sb v' D'/\CInvW W H E' L' D'/\AddRes W H L p r/\(∀ q,someC L' q↔someC L q\/(q=p/\inBox W H p))/\L'.length<=L.length+2/\D'.length<=D.length+2/\(r=0->AddD D p D'/\(L'.length=L.length+2/\¬ atRim W H p\/L'.length=L.length+1/\atRim W H p)/\D'.length=D.length+(if (D.find? (onD p)).isSome then 1 else 0))/\(r≠0->E'=E/\L'=L/\D'=D)/\Frm w w' (λk=>k=b\/Foot sb v k)/\Fresh v v' w.heap.size
theorem gpoint_any (mb b sb:Nat) (v:Value) (W H:Int) (hW0:0 < W) (hH0:0 < H) (hW:W < 16777216) (hH:H < 16777216) (E:Es) (L:List Tri3) (D:List Wl) (hI:CInvW W H E L D) (hL:L.length<=92) (hD:D.length<=20000) (p:Pt) (w:World) (Bm:Box w mb [.map (some b)] 83) (Hm:Hs w b E) (S:SetAt w sb v D) (hms:¬ Foot sb v mb):Calls prog 7 #[pt0 mb,pt0 sb,p] w (GAddPost W H b sb v E L D p w):=by
 have hE:E.length<=1000000:=by rw [hI.good.len];omega
 have g:=hI.good;have t:=hI.fix.tiles;by_cases hb0:inBox W H p
 ·obtain ⟨q1,q2⟩:=tq hW hH g hb0;have q3:=Xp hW hH g t hW0 hH0 hb0;have vp:vld p=true:=by rw [zh];unfold inBox at hb0;omega
  have hin:∀ T∈atE E p,T∈L/\hasP T p=true:=λT hT=>JZ.1 (q1.mem_iff.1 hT);by_cases hc0:someC L p
  ·obtain ⟨T0,hT0,c0⟩:=hc0;refine (gpoint_have mb b sb E p hE q3 (λT hT=>km.2 (t.cnr_all hT0 (hin T hT).1 c0 ((q2 T (hin T hT).1).1 (hin T hT).2))) w Bm Hm).mono ?_;rintro e w' ⟨rfl,hb⟩;exact ⟨5,E,L,D,v,rfl,Hm.ee hb,S.ee hb,hI,.inr (.inl ⟨rfl,hb0,T0,hT0,c0⟩),λq=>⟨.inl,λk=>by rcases k with k | ⟨rfl,_⟩;exact k;exact ⟨T0,hT0,c0⟩⟩,by omega,by omega,λk=>by omega,λ_=>⟨rfl,rfl,rfl⟩,Frm.of_below hb,λg hg=>.inl hg⟩
  ·obtain ⟨k1,k2,k3,k4,k5,L1,g1,g2,t1,s1,n1⟩:=grow_good hW hH g t hW0 hH0 hb0 hc0;have hL1:L1.length<=L.length+2:=by rcases n1 with ⟨k,_⟩ | ⟨k,_⟩ <;> omega
   have hA:∀ T∈atE E p,okT T/\hasP T p=true/\isCb p T=false/\0 < (cutP p T).length/\cutS p T=srt cmpT (cutP p T)/\∀ U∈cutS p T,okT U:=λT hT=>by
    obtain ⟨m1,m2⟩:=hin T hT;have m3:isCb p T=false:=by
     cases h:isCb p T with
     | false=>rfl
     | true=>exact absurd ⟨T,m1,km.1 h⟩ hc0
    exact ⟨ye (k1 T hT),m2,m3,Xb (k1 T hT) vp ((q2 T m1).1 m2),Xa m2 m3,λU hU=>ye (k2 T hT U hU)⟩
   have hh:=λX hX=>halve_eq hW0 hH0 hW hH g t hI.wal hb0 hc0 g1 t1 (X:=X) hX;refine (gpoint_ok mb b sb E p W H hW hH v D hE q3 k3 hA k4 k5 L1 g2 t1 (by omega) (by omega) (λX hX=>⟨(hh X hX).1,(hh X hX).2.1⟩) w Bm Hm S hms).mono ?_;rintro e w' ⟨rfl,E',L',v',H',S',R',F',f1,f2⟩;have hDD:WInv L1 (halfL D p)/\AddD D p (halfL D p)/\(halfL D p).length=D.length+(if (D.find? (onD p)).isSome then 1 else 0):=by
    cases hX:D.find? (onD p) with
    | none=>
     have e0:halfL D p=D:=by unfold halfL;rw [hX]
     have hA:AddD D p D:=.inl ⟨hX,rfl⟩;rw [e0];exact ⟨tz hW0 hH0 hW hH g t hI.wal hb0 hc0 hA g1 t1,hA,rfl⟩
    | some X=>
     have e0:halfL D p=addL (addL (remL D (lo2 X.A X.B) (hi2 X.A X.B)) ⟨X.A,p,X.K⟩) ⟨p,X.B,X.K⟩:=by unfold halfL;rw [hX]
     have:=(hh X hX).2.2 _ e0 S'.ris;exact ⟨this.1,this.2.1,this.2.2⟩
   have hk:=YX hDD.2.1 hI.kinds;exact ⟨0,E',L',halfL D p,v',rfl,H',S',⟨R'.good,F',hk.1,hDD.1.kept R'.kept,Ki hDD.2.1 hI.rim⟩,.inr (.inr ⟨rfl,hb0,hc0⟩),λq=>by rw [R'.kept.cnr q,s1 q];simp [hb0],by rw [R'.kept.len];exact hL1,hk.2,λ_=>⟨hDD.2.1,by rw [R'.kept.len];exact n1,hDD.2.2⟩,λk=>absurd rfl k,f1,f2⟩
 ·refine (gpoint_none mb b sb E p hE (Kg g t hb0) w Bm Hm).mono ?_;rintro e w' ⟨rfl,hb⟩;exact ⟨1,E,L,D,v,rfl,Hm.ee hb,S.ee hb,hI,.inl ⟨rfl,hb0⟩,λq=>⟨.inl,λk=>by rcases k with k | ⟨rfl,h⟩;exact k;exact absurd h hb0⟩,by omega,by omega,λk=>by omega,λ_=>⟨rfl,rfl,rfl⟩,Frm.of_below hb,λg hg=>.inl hg⟩
structure GSt (s:Int) (w:World) (m b sb:Nat) (v:Value) (E:Es) (L:List Tri3) (D:List Wl):Prop where
 box:Box w m [.map (some b)] 83
 map:Hs w b E
 set:SetAt w sb v D
 inv:CInvW s s E L D
 ms:¬ Foot sb v m
theorem GSt.ext {s:Int} {w w':World} {m b sb n:Nat} {v:Value} {E:Es} {L:List Tri3} {D:List Wl} (S:GSt s w m b sb v E L D) (hb:Below n w w') (hn:n=w.heap.size):GSt s w' m b sb v E L D:=
 ⟨S.box.ext hb hn,S.map.ext hb hn,S.set.ext hb hn,S.inv,S.ms⟩
theorem GSt.ee {s:Int} {w w':World} {m b sb:Nat} {v:Value} {E:Es} {L:List Tri3} {D:List Wl} (S:GSt s w m b sb v E L D) (hb:Below w w w'):GSt s w' m b sb v E L D:=S.ext hb rfl
def Apt (b sb:Nat) (v:Value) (k:Nat):Prop:=k≠b/\¬ Foot sb v k
theorem GSt.apt {s:Int} {w:World} {m b sb:Nat} {v:Value} {E:Es} {L:List Tri3} {D:List Wl} (S:GSt s w m b sb v E L D) {k:Nat} (hk:w.heap.size<=k):Apt b sb v k:=⟨by have:=S.map.lt;omega,XR S.set hk⟩
theorem Apt.step {w:World} {b sb:Nat} {v v':Value} {k:Nat} (h:Apt b sb v k) (f:Fresh v v' w.heap.size) (hk:k < w.heap.size):Apt b sb v' k:=⟨h.1,λe=>h.2 (ua f (JJ _) k e hk)⟩
theorem Apt.box {w w':World} {b sb:Nat} {v:Value} {k:Nat} {cs:List Value} {T:TypeId} (h:Apt b sb v k) (B:Box w k cs T) (F:Frm w w' (λk=>k=b\/Foot sb v k)):Box w' k cs T:=F.box B λe=>by
 rcases e with e | e
 ·exact h.1 e
 ·exact h.2 e
def GTold (s:Int) (L:List Tri3) (D:List Wl) (p:Pt) (r:Int) (L':List Tri3) (D':List Wl):Prop:=
 AddRes s s L p r/\(∀ q,someC L' q↔someC L q\/(q=p/\inBox s s p))/\L'.length<=L.length+2/\D'.length<=D.length+2/\(r=0->AddD D p D'/\(L'.length=L.length+2/\¬ atRim s s p\/L'.length=L.length+1/\atRim s s p)/\D'.length=D.length+(if (D.find? (onD p)).isSome then 1 else 0))/\(r≠0->L'=L/\D'=D)
theorem gstep (s:Int) (hs:0 < s) (hs2:s<=60) {w:World} {m b sb:Nat} {v:Value} {E:Es} {L:List Tri3} {D:List Wl} (S:GSt s w m b sb v E L D) (hL:L.length<=92) (hD:D.length<=20000) (p:Pt):Calls prog 7 #[pt0 m,pt0 sb,p] w λe w'=>∃ r E' L' D' v',e=.returned (.int .i64 r)/\GSt s w' m b sb v' E' L' D'/\GTold s L D p r L' D'/\Frm w w' (λk=>k=b\/Foot sb v k)/\Fresh v v' w.heap.size:=by
 refine (gpoint_any m b sb v s s hs hs (by omega) (by omega) E L D S.inv hL hD p w S.box S.map S.set S.ms).mono ?_;rintro e w' ⟨r,E',L',D',v',rfl,h1,h2,h3,h4,h5,h6,h7,h8,h9,h10,h11⟩;have ha:Apt b sb v m:=⟨S.box.ne_map S.map,S.ms⟩;exact ⟨r,E',L',D',v',rfl,⟨ha.box S.box h10,h1,h2,h3,(ha.step h11 S.box.lt).2⟩,⟨h4,h5,h6,h7,h8,λk=>(h9 k).2⟩,h10,h11⟩
theorem map_keep {w w':World} {p:Nat->Prop} {b:Nat} {E:Es} (H:Hs w b E) (h:Frm w w' p) (h1:¬ p b):Hs w' b E:=by
 have hlt:=H.lt;obtain ⟨es,clock,hb,r⟩:=H;exact ⟨es,clock,(h.block b hlt h1).trans hb,r⟩
section
variable {s:Int} {n1:Nat} {w w':World} {m b2 sb:Nat} {v v':Value} {E E':Es} {L L':List Tri3} {D D':List Wl} {cb mb b db:Nat} {vd vd':Value} {E1 E1':Es} {L1 L1':List Tri3} {D1 D1':List Wl}
end
theorem gt_next {k:Nat} (h:k<=100000):wrap64 ((k:Int)+1)=((k+1:Nat):Int):=by rw [w64];omega
theorem gt_meas {k m:Nat} (h:k < m) (e:wrap64 ((k:Int)+1)=((k+1:Nat):Int)):m - (intOf (.int .i64 (wrap64 ((k:Int)+1)))).toNat < m - (intOf (.int .i64 (k:Int))).toNat:=by
 rw [e];simp [intOf];omega
def Own (m b sb:Nat) (v:Value) (k:Nat):Prop:=k=m\/k=b\/Foot sb v k
section
variable {s:Int} {w w':World} {m b sb m2 b2 sb2:Nat} {v v' v2:Value} {E E' E2:Es} {L L' L2:List Tri3} {D D' D2:List Wl}
theorem GSt.lt (S:GSt s w m b sb v E L D):∀ k,Own m b sb v k->k < w.heap.size:=λk h=>by
 rcases h with rfl | rfl | h
 ·exact S.box.lt
 ·exact S.map.lt
 ·rcases Qb k w.heap.size with h' | h'
  ·exact h'
  ·exact absurd h (XR S.set h')
theorem GSt.keep {p:Nat->Prop} (S:GSt s w m b sb v E L D) (F:Frm w w' p) (h:∀ k,Own m b sb v k->¬ p k):GSt s w' m b sb v E L D:=
 ⟨F.box S.box (h _ (.inl rfl)),map_keep S.map F (h _ (.inr (.inl rfl))),S.set.keep F (h sb (.inr (.inr (.inl rfl)))) (λg hg=>h g (.inr (.inr (.inr hg)))),S.inv,S.ms⟩
structure Pair (s:Int) (n1:Nat) (w:World) (m b sb:Nat) (v:Value) (E:Es) (L:List Tri3) (D:List Wl) (m2 b2 sb2:Nat) (v2:Value) (E2:Es) (L2:List Tri3) (D2:List Wl):Prop where
 A:GSt s w m b sb v E L D
 B:GSt s w m2 b2 sb2 v2 E2 L2 D2
 sep:∀ k,Own m b sb v k->¬ Own m2 b2 sb2 v2 k
 loA:∀ k,Own m b sb v k->n1<=k
 loB:∀ k,Own m2 b2 sb2 v2 k->n1<=k
variable {n1:Nat}
theorem Pair.swap (U:Pair s n1 w m b sb v E L D m2 b2 sb2 v2 E2 L2 D2):Pair s n1 w m2 b2 sb2 v2 E2 L2 D2 m b sb v E L D:=⟨U.B,U.A,λk h1 h2=>U.sep k h2 h1,U.loB,U.loA⟩
theorem Pair.ee (U:Pair s n1 w m b sb v E L D m2 b2 sb2 v2 E2 L2 D2) (hb:Below w w w'):Pair s n1 w' m b sb v E L D m2 b2 sb2 v2 E2 L2 D2:=⟨U.A.ee hb,U.B.ee hb,U.sep,U.loA,U.loB⟩
theorem Pair.step (U:Pair s n1 w m b sb v E L D m2 b2 sb2 v2 E2 L2 D2) (S':GSt s w' m b sb v' E' L' D') (F:Frm w w' (λk=>k=b\/Foot sb v k)) (f:Fresh v v' w.heap.size):Pair s n1 w' m b sb v' E' L' D' m2 b2 sb2 v2 E2 L2 D2:=by
 have hn:n1<=w.heap.size:=JY (U.loA m (.inl rfl)) (UJ U.A.box.lt);have back:∀ k,Own m b sb v' k->Own m b sb v k\/w.heap.size<=k:=λk h=>by
  rcases h with h | h | h | h
  ·exact .inl (.inl h)
  ·exact .inl (.inr (.inl h))
  ·exact .inl (.inr (.inr (.inl h)))
  ·rcases f k h with h | h
   ·exact .inl (.inr (.inr (.inr h)))
   ·exact .inr h
 refine ⟨S',U.B.keep F λk hk e=>U.sep k ?_ hk,λk h1 h2=>?_,λk h=>?_,U.loB⟩
 ·rcases e with e | e
  ·exact .inr (.inl e)
  ·exact .inr (.inr e)
 ·rcases back k h1 with h | h
  ·exact U.sep k h h2
  ·have:=U.B.lt k h2;omega
 ·rcases back k h with h | h
  ·exact U.loA k h
  ·omega
theorem Pair.below {n:Nat} {w0:World} (U:Pair s n1 w m b sb v E L D m2 b2 sb2 v2 E2 L2 D2) (F:Frm w w' (λk=>k=b\/Foot sb v k)) (hn:n<=n1) (hw:Below n w0 w):Below n w0 w':=
 hw.trans (F.below (λk e=>JY hn (U.loA k (by
  rcases e with e | e
  ·exact .inr (.inl e)
  ·exact .inr (.inr e)))) (JY hn (JY (U.loA m (.inl rfl)) (UJ U.A.box.lt))))
end
structure Gone (s:Int) (C:Pt->Prop) (D0:List Wl) (Z la:List Pt) (L:List Tri3) (D:List Wl):Prop where
 nd:la.Nodup
 new:∀ q∈la,¬ C q
 src:∀ q∈la,q∈Z
 all:∀ q∈Z,C q\/q∈la
 box:∀ q∈la,inBox s s q
 cnr:∀ q,someC L q↔C q\/q∈la
 wal:∀ x,x∈D↔cutsW la (· ∈ D0) x
theorem Gone.start {s:Int} {C:Pt->Prop} {D0:List Wl} {L:List Tri3} (h:∀ q,someC L q↔C q):Gone s C D0 [] [] L D0:=
 ⟨UL,by simp,by simp,by simp,by simp,by simpa using h,λ_=>Vw⟩
theorem Gone.step {s:Int} {C:Pt->Prop} {D0 D D':List Wl} {Z la:List Pt} {L L':List Tri3} {E:Es} {p:Pt} {r:Int} (G:Gone s C D0 Z la L D) (I:CInvW s s E L D) (hp:inBox s s p) (T:GTold s L D p r L' D'):∃ la',Gone s C D0 (Z ++ [p]) la' L' D'/\la'.length<=la.length+1/\((r == 0)=true->la'.length=la.length+1)/\((r == 0)=false->la'=la):=by
 obtain ⟨hr,hc,_,_,h0,h1⟩:=T;by_cases e:r=0
 ·subst e;obtain ⟨hA,_⟩:=h0 rfl;have hn:¬ someC L p:=by rcases hr with ⟨k,_⟩ | ⟨k,_⟩ | ⟨_,_,k⟩ <;> first | (exact absurd k (by decide)) | exact k
  have hn2:¬ C p/\p ∉ la:=⟨λh=>hn ((G.cnr p).2 (.inl h)),λh=>hn ((G.cnr p).2 (.inr h))⟩;refine ⟨p :: la,⟨Jf.2 ⟨hn2.2,G.nd⟩,?_,?_,?_,?_,?_,?_⟩,by simp,λ_=>rfl,λh=>absurd h (by decide)⟩
  ·intro q hq;rcases J1.1 hq with rfl | hq
   ·exact hn2.1
   ·exact G.new q hq
  ·intro q hq;rcases J1.1 hq with rfl | hq
   ·simp
   ·exact Jk _ (G.src q hq)
  ·intro q hq;rcases JM.1 hq with hq | hq
   ·rcases G.all q hq with h | h
    ·exact .inl h
    ·exact .inr (JN _ h)
   ·rw [QP] at hq;subst hq;exact .inr JT
  ·intro q hq;rcases J1.1 hq with rfl | hq
   ·exact hp
   ·exact G.box q hq
  ·intro q;rw [hc q,G.cnr q,J1];constructor
   ·rintro ((h | h) | ⟨h,_⟩)
    ·exact .inl h
    ·exact .inr (.inr h)
    ·exact .inr (.inl h)
   ·rintro (h | h | h)
    ·exact .inl (.inl h)
    ·exact .inr ⟨h,hp⟩
    ·exact .inl (.inr h)
  ·intro x;exact (addD_cut I.wal.ris I.wal.apart I.wal.good hA (onD_one I.wal.apart I.wal.good) x).trans (qR G.wal x)
 ·obtain ⟨rfl,rfl⟩:=h1 e;have hs:someC L' p:=by
   have:=hc p;exact this.2 (.inr ⟨rfl,hp⟩)
  refine ⟨la,⟨G.nd,G.new,λq hq=>Jk _ (G.src q hq),?_,G.box,G.cnr,G.wal⟩,by omega,λh=>absurd (by simpa using h) e,λ_=>rfl⟩;intro q hq;rcases JM.1 hq with hq | hq
  ·exact G.all q hq
  ·rw [QP] at hq;subst hq;exact (G.cnr q).1 hs
theorem gone_same {s:Int} (hs:0 < s) (hs2:s < 16777216) {C:Pt->Prop} {D0 D1 D2:List Wl} {Z1 Z2 l1 l2:List Pt} {L1 L2:List Tri3} {E1 E2:Es} (g0:∀ x∈D0,GoodW x) (G1:Gone s C D0 Z1 l1 L1 D1) (G2:Gone s C D0 Z2 l2 L2 D2) (I1:CInvW s s E1 L1 D1) (I2:CInvW s s E2 L2 D2) (hZ:∀ q,q∈Z1↔q∈Z2):l1.length=l2.length/\D1=D2/\srt cmpT (heads (λ_=>true) E1)=srt cmpT (heads (λ_=>true) E2):=by
 have hm:∀ {Z l:List Pt} {L:List Tri3} {D:List Wl},Gone s C D0 Z l L D->∀ q,q∈l↔q∈Z/\¬ C q:=λG q=>
  ⟨λh=>⟨G.src q h,G.new q h⟩,λ⟨h1,h2⟩=>by rcases G.all q h1 with h | h;exact absurd h h2;exact h⟩
 have hl:∀ q,q∈l1↔q∈l2:=λq=>by rw [hm G1 q,hm G2 q,hZ q]
 have vb:∀ q,inBox s s q->vld q=true:=λq hq=>by rw [zh];unfold inBox at hq;omega
 have hD:D1=D2:=yB wholeW I1.wal.ris I2.wal.ris λx=>by
  rw [G1.wal x,G2.wal x];exact cutsW_same g0 (λq hq=>vb q (G1.box q hq)) (λq hq=>vb q (G2.box q hq)) hl x
 subst hD;refine ⟨((V2 G1.nd G2.nd).2 hl).length_eq,rfl,?_⟩;exact fix_same hs hs2 I1.good I2.good I1.fix I2.fix I1.wal.edge I2.wal.edge λq=>by rw [G1.cnr q,G2.cnr q,hl q]
def kap (ev:Bool) (t n j:Nat):Nat:=if ev then (j+t) % n else n - 1 - j
theorem kap_lt {ev:Bool} {t n j:Nat} (h:j < n):kap ev t n j < n:=by
 unfold kap;split
 ·exact UV _ (by omega)
 ·omega
theorem kap_all {ev:Bool} {t n i:Nat} (ht:t < n) (h:i < n):∃ j,j < n/\kap ev t n j=i:=by
 cases ev with
 | false=>exact ⟨n - 1 - i,by omega,by unfold kap;rw [J0 (by simp)];omega⟩
 | true=>
  refine ⟨(i+(n - t)) % n,UV _ (by omega),?_⟩;unfold kap;rw [JH rfl,Nat.mod_add_mod,show i+(n - t)+t=i+n by omega,Nat.add_mod_right];exact Nat.mod_eq_of_lt h
def ZA (s:Int) (X:List Int) (i:Nat):List Pt:=(X.take i).map (spt s)
def ZB (s:Int) (X:List Int) (ev:Bool) (t i:Nat):List Pt:=(List.range i).map λj=>spt s (X.getD (kap ev t X.length j) 0)
theorem ZA_succ {s:Int} {X:List Int} {i:Nat} (h:i < X.length):ZA s X (i+1)=ZA s X i ++ [spt s X[i]]:=by
 unfold ZA;rw [JK h,QC];rfl
theorem ZB_succ {s:Int} {X:List Int} {ev:Bool} {t i:Nat}:ZB s X ev t (i+1)=ZB s X ev t i ++ [spt s (X.getD (kap ev t X.length i) 0)]:=by
 unfold ZB;rw [V9,QC];rfl
theorem Z_same {s:Int} {X:List Int} {ev:Bool} {t:Nat} (ht:t < X.length\/X.length=0) (q:Pt):q∈ZA s X X.length↔q∈ZB s X ev t X.length:=by
 unfold ZA ZB;rw [List.take_length,JS,JS];constructor
 ·rintro ⟨x,hx,rfl⟩;obtain ⟨i,hi,rfl⟩:=QD.1 hx;obtain ⟨j,hj,e⟩:=kap_all (ev:=ev) (t:=t) (n:=X.length) (by omega) hi;refine ⟨j,Q7.2 hj,?_⟩;simp only [e];rw [Vp,JG hi];rfl
 ·rintro ⟨j,hj,rfl⟩;have hj:=Q7.1 hj;have hk:=kap_lt (ev:=ev) (t:=t) hj;refine ⟨X[kap ev t X.length j],JX hk,?_⟩;rw [Vp,JG hk];rfl
theorem Xr {W H:Int} {k:Int} (hk:k=1):∀ (M:List Pt) {E E2:Es} {D D2:List Wl},(∀ x∈D,x.K=2->onRim W H x.A x.B)->addsW k M E D E2 D2->∀ x∈D2,x.K=2->onRim W H x.A x.B
 | [],E,E2,D,D2,hD,h=>by obtain ⟨rfl,rfl⟩:=h;exact hD
 | [_],E,E2,D,D2,hD,h=>by obtain ⟨rfl,rfl⟩:=h;exact hD
 | x :: y :: M,E,E2,D,D2,hD,h=>by
  obtain ⟨Q0,j,_,_,h⟩:=h;refine Xr hk (y :: M) (λz hz hz2=>?_) h;rcases J1.1 ((yc _ _ _).mem_iff.1 hz) with rfl | hz
  ·exfalso
   unfold mkW at hz2;split at hz2
   ·rw [hk] at hz2;cases hz2
   ·cases hz2
  ·exact hD z hz hz2
theorem addw_rim {W H:Int} {E E2:Es} {D D2:List Wl} {p q:Pt} {r:Int} (hD:∀ x∈D,x.K=2->onRim W H x.A x.B) (h:AddWR E D p q 1 r E2 D2):∀ x∈D2,x.K=2->onRim W H x.A x.B:=by
 rcases h with ⟨_,_,rfl,_⟩ | ⟨_,_,_,_,_,_,_,M,_,_,h⟩
 ·exact hD
 ·exact Xr rfl M hD h
def CAddWPostW (cb mb b db:Nat) (W H:Int) (E:Es) (L:List Tri3) (D:List Wl) (p q:Pt) (w:World) (e:Ending) (w':World):Prop:=
 ∃ r v' E1 E' L' D',e=.returned (.int .i64 r)/\CdtAt w' cb mb b db v' W H E' D'/\CInvW W H E' L' D'/\AddWR E D p q 1 r E1 D'/\(r≠0->E'=E)/\(r=0->∃ L1,Good E1 L1/\Tiles W H L1/\Kept (wll D') L1 L')/\(∀ x,someC L' x↔someC L x)/\L'.length=L.length/\D'.length<=D.length+3 * L.length/\Frm w w' (λk=>k=b\/k=db)
theorem rcaddwX_any (cb mb b db:Nat) (v:Value) (W H:Int) (hW0:0 < W) (hH0:0 < H) (hW:W < 16777216) (hH:H < 16777216) (E:Es) (L:List Tri3) (D:List Wl) (hI:CInvW W H E L D) (hL:L.length<=94) (hD:D.length<=20000) (p q:Pt) (w:World) (S:CdtAt w cb mb b db v W H E D):Calls prog 20 #[pt0 cb,p,q,.int .i64 1] w (CAddWPostW cb mb b db W H E L D p q w):=by
 have hE:E.length<=90000:=by rw [hI.good.len];omega
 have ca:=λw0 B1 H1 D1=>raddw_any mb b db E L hE hI.good v D (by omega) hI.kinds p q w0 B1 H1 D1 S.mdb
 change ∀ (w0:World) B1 H1 D1,Calls _ _ _ _ (AddWPost b db E D p q 1 w0) at ca
 have HI:=hdd hI;have HL:=hdd hL;clear hI hE hL hD
 go_enter func20,ntmps20
 go_wp2_with fail;refine zG λw1 hW'=>?_;have Bp:Box w1 w [p.x,p.y] 34:=by rw [hW'];exact (Box.new rfl).old _
 have Bq:Box w1 (w+1) [q.x,q.y] 34:=by rw [hW'];exact Box.new (by simp)
 have hw:Below w w w1:=by rw [hW'];go_grown
 clear hW';have S1:=S.ee hw;have g1:=Bp.cells;have g3:=Bq.cells;have g2:=S1.box.cells;refine rgn 11 (λw2 hb=>?_);clear g1 g2 g3;have hw2:=(upB hw hb);clear hb Bp Bq S1 hw;go_wp2_with fail;have S2:=S.ee hw2;refine (ca _ S2.mesh S2.map S2.doc).mono ?_;rintro e w3 ⟨r,E1,D1,v1,rfl,hR,H3,D3,f3⟩;have nb:∀ {x:Nat} {cs:List Value} {T:TypeId},Box w2 x cs T->x≠b:=λh=>h.ne_map S2.map;have S3:CdtAt w3 cb mb b db v1 W H E1 D1:=⟨f3.box S2.box (λk=>by rcases k with k | k;exact nb S2.box k;exact S.cdb k),f3.box S2.mesh (λk=>by rcases k with k | k;exact nb S2.mesh k;exact S.mdb k),H3,D3,S.cdb,S.mdb⟩;have F3:Frm w w3 (λk=>k=b\/k=db):=(Frm.of_below hw2).trans f3;have HR:=hdd hR;clear nb ca H3 D3 hR f3 S2 hw2;by_cases hr:r=0
 ·subst hr;have HWI:=hdd (addw_inv hW0 hH0 hW hH HI.o.good HI.o.fix.tiles HL.o HI.o.wal HR.o);obtain ⟨L1,g1',t1',l1,c1,d1,n1⟩:∃ L2,Good E1 L2/\Tiles W H L2/\L2.length=L.length/\(∀ q,someC L2 q↔someC L q)/\(∀ x∈D1,0<=x.K/\x.K<=2)/\D1.length<=D.length+3 * L.length:=by
   rcases HR.o with ⟨k,_⟩ | ⟨_,hk,_,vp,vq,s1,_,M,hM,_,ha⟩
   ·exact absurd rfl k
   ·obtain ⟨L2,x1,x2,x3,x4,x5,x6⟩:=tu hW hH hk M HI.o.good HI.o.fix.tiles HI.o.kinds ha;have:=(Zo hM (Zp s1 vp vq)).2;rw [HI.o.good.len] at this;exact ⟨L2,x1,x2,x3,x4,x5,by omega⟩
  have HK:=hdd (show Good E1 L1/\Tiles W H L1/\L1.length=L.length/\(∀ q,someC L1 q↔someC L q)/\(∀ x∈D1,0<=x.K/\x.K<=2)/\D1.length<=D.length+3 * L.length from ⟨g1',t1',l1,c1,d1,n1⟩);have HW1:=hdd (show WInv L1 D1 from by
   obtain ⟨L3,y1,_,y3,_⟩:=HWI.o;exact y3.perm (jK y1 g1'))
  clear HWI;have HRM:=hdd (addw_rim HI.o.rim HR.o);have cr:=λa0 c n w0 B1 H1 R1=>kf mb b db a0 c n E1 L1 D1 W H hW hH (by have:=HL.o;omega) g1' t1' w0 B1 H1 R1;clear g1' t1' l1 c1 d1 n1;have g2:=S3.box.cells;go_wp2_with fail;refine rgn 8 (λw4 hb=>?_);clear g2;have S4:=S3.ee hb;have F4:=F3.trans (Frm.of_below hb);clear hb S3 F3;obtain ⟨a4,c4,rfl,R4,_⟩:=S4.doc.rd;go_wp2_with fail;refine (cr a4 c4 D1.length _ S4.mesh S4.map R4).mono ?_;rintro e w5 ⟨rfl,E5,L5,hg5,H5,hS5,hF5⟩;have S5:CdtAt w5 cb mb b db (.slice a4 D1.length c4) W H E5 D1:=⟨S4.box.turn S4.map hg5,S4.mesh.turn S4.map hg5,H5,S4.doc.turn S4.map hg5,S4.cdb,S4.mdb⟩;have F5:Frm w w5 (λk=>k=b\/k=db):=F4.trans (Frm.of_grown hg5 (λg e=>.inl (JU e).symm));clear cr R4 hg5 H5 S4 F4;go_wp2
  go_ret
  obtain ⟨x1,x2,x3,x4,x5,x6⟩:=HK.o;exact ⟨0,_,E1,E5,L5,D1,rfl,S5,⟨hS5.good,hF5,x5,HW1.o.kept hS5.kept,HRM.o⟩,HR.o,λh=>absurd rfl h,λ_=>⟨L1,x1,x2,hS5.kept⟩,λy=>(hS5.kept.cnr y).trans (x4 y),hS5.kept.len.trans x3,x6,F5⟩
 ·have hr1:(r == 0)=false:=by simp;exact hr
  obtain ⟨rfl,rfl⟩:E1=E/\D1=D:=by
   rcases HR.o with ⟨_,k1,k2,_⟩ | ⟨k,_⟩
   ·exact ⟨k1,k2⟩
   ·exact absurd k hr
  have HR2:=hdd hr;clear hr;go_wp2;refine bodyPost_ret (v:=.int .i64 r) (by simp [results,results20,go_sem]) rfl ?_;exact ⟨r,v1,E1,E1,L,D1,rfl,S3,HI.o,HR.o,λ_=>rfl,λh=>absurd h HR2.o,λ_=>Vw,rfl,by omega,F3⟩
theorem Z4 {W H:Int} (hW0:0 < W) (hH0:0 < H) (hW:W < 16777216) (hH:H < 16777216) (k:Nat):∃ a b,sqW W H k=⟨a,b,2⟩/\GoodW (sqW W H k)/\((a=sqP W H k/\b=sqP W H (k+1))\/(a=sqP W H (k+1)/\b=sqP W H k)):=by
 have vb:∀ q,inBox W H q->vld q=true:=λq hq=>by rw [zh];unfold inBox at hq;omega
 have bx:∀ j,inBox W H (sqP W H j):=λj=>by unfold sqP inBox;(repeat' split) <;> simp only <;> omega
 have ne:sqP W H k≠sqP W H (k+1):=λe=>by
  have:=Pt.eq_iff.1 e;unfold sqP at this;have h4:k % 4=0\/k % 4=1\/k % 4=2\/k % 4=3:=by omega
  rcases h4 with h | h | h | h
  ·have h2:(k+1) % 4=1:=by omega
   simp [h,h2] at this;omega
  ·have h2:(k+1) % 4=2:=by omega
   simp [h,h2] at this;omega
  ·have h2:(k+1) % 4=3:=by omega
   simp [h,h2] at this;omega
  ·have h2:(k+1) % 4=0:=by omega
   simp [h,h2] at this;omega
 have hm:mkOk (sqP W H k) (sqP W H (k+1)) 2=true:=by
  unfold mkOk mkK;simp [ne,vb _ (bx k),vb _ (bx (k+1))]
 have e:sqW W H k=⟨lo2 (sqP W H k) (sqP W H (k+1)),hi2 (sqP W H k) (sqP W H (k+1)),2⟩:=by unfold sqW mkW;rw [JH hm]
 refine ⟨_,_,e,by rw [e];exact XM hm,?_⟩;unfold lo2 hi2;split
 ·exact .inr ⟨rfl,rfl⟩
 ·exact .inl ⟨rfl,rfl⟩
theorem ZZ {W H:Int} (hW0:0 < W) (hH0:0 < H) {i j:Nat} (hi:i < 4) (hj:j < 4) (hij:i≠j):¬ ((sqP W H i=sqP W H j/\sqP W H (i+1)=sqP W H (j+1))\/(sqP W H i=sqP W H (j+1)/\sqP W H (i+1)=sqP W H j)):=by
 have hi':i=0\/i=1\/i=2\/i=3:=by omega
 have hj':j=0\/j=1\/j=2\/j=3:=by omega
 rcases hi' with rfl | rfl | rfl | rfl <;> rcases hj' with rfl | rfl | rfl | rfl <;> first | exact absurd rfl hij | (simp [sqP,Pt.eq_iff];omega)
theorem sqW_rim {W H:Int} (hW0:0 < W) (hH0:0 < H) (hW:W < 16777216) (hH:H < 16777216) (k:Nat):onRim W H (sqW W H k).A (sqW W H k).B:=by
 obtain ⟨a,b,e,_,h⟩:=Z4 hW0 hH0 hW hH k;rw [e];have hr:onRim W H (sqP W H k) (sqP W H (k+1)):=by
  unfold sqP onRim;have h4:k % 4=0\/k % 4=1\/k % 4=2\/k % 4=3:=by omega
  rcases h4 with h | h | h | h
  ·have h2:(k+1) % 4=1:=by omega
   simp [h,h2]
  ·have h2:(k+1) % 4=2:=by omega
   simp [h,h2]
  ·have h2:(k+1) % 4=3:=by omega
   simp [h,h2]
  ·have h2:(k+1) % 4=0:=by omega
   simp [h,h2]
 rcases h with ⟨rfl,rfl⟩ | ⟨rfl,rfl⟩
 ·exact hr
 ·exact tH hr
theorem Xx {W H:Int} (hW0:0 < W) (hH0:0 < H) (hW:W < 16777216) (hH:H < 16777216) {k:Nat} (hk:k < 4) (x:Wl) (hx:x∈(List.range k).map (sqW W H)) (e:x=mkW (sqP W H k) (sqP W H (k+1)) 2):False:=by
 obtain ⟨i,hi,rfl⟩:=JS.1 hx;rw [Q7] at hi
 change sqW W H i=sqW W H k at e
 obtain ⟨a,b,e1,_,h1⟩:=Z4 hW0 hH0 hW hH i;obtain ⟨c,d,e2,_,h2⟩:=Z4 hW0 hH0 hW hH k;rw [e1,e2] at e;simp only [Wl.mk.injEq,Vs] at e;obtain ⟨rfl,rfl⟩:=e;refine ZZ hW0 hH0 (by omega:i < 4) hk (by omega) ?_;rcases h1 with ⟨p1,p2⟩ | ⟨p1,p2⟩ <;> rcases h2 with ⟨q1,q2⟩ | ⟨q1,q2⟩
 ·exact .inl ⟨p1.symm.trans q1,p2.symm.trans q2⟩
 ·exact .inr ⟨p1.symm.trans q1,p2.symm.trans q2⟩
 ·exact .inr ⟨p2.symm.trans q2,p1.symm.trans q1⟩
 ·exact .inl ⟨p2.symm.trans q2,p1.symm.trans q1⟩
theorem winv_square {W H:Int} (hW0:0 < W) (hH0:0 < H) (hW:W < 16777216) (hH:H < 16777216) {L:List Tri3} (t:Tiles W H L) (hE:edgeL L ⟨0,0⟩ ⟨W,0⟩/\edgeL L ⟨W,0⟩ ⟨W,H⟩/\edgeL L ⟨W,H⟩ ⟨0,H⟩/\edgeL L ⟨0,H⟩ ⟨0,0⟩) {D:List Wl} (hP:D.Perm ((List.range 4).map (sqW W H))) (hR:Ris D):WInv L D:=by
 have he:∀ i,i < 4->edgeL L (sqP W H i) (sqP W H (i+1)):=λi hi=>by
  have hi':i=0\/i=1\/i=2\/i=3:=by omega
  rcases hi' with rfl | rfl | rfl | rfl
  ·exact hE.1
  ·exact hE.2.1
  ·exact hE.2.2.1
  ·exact hE.2.2.2
 have hs:∀ i,i < 4->edgeL L (sqW W H i).A (sqW W H i).B:=λi hi=>by
  obtain ⟨a,b,e,_,h⟩:=Z4 hW0 hH0 hW hH i;rw [e];rcases h with ⟨rfl,rfl⟩ | ⟨rfl,rfl⟩
  ·exact he i hi
  ·exact (he i hi).turn
 refine ⟨λx hx=>?_,hR,qV hP.symm ?_,λx hx=>?_⟩
 ·obtain ⟨i,_,rfl⟩:=JS.1 (hP.mem_iff.1 hx);obtain ⟨_,_,_,g,_⟩:=Z4 hW0 hH0 hW hH i;exact g
 ·unfold Apart;rw [Vx];have hn:(List.range 4).Pairwise (λa b=>a≠b):=List.nodup_range;refine List.Pairwise.imp_of_mem (λ{i j} hi hj hij=>?_) hn;rw [Q7] at hi hj;refine t.edges_apart hW hH (hs i hi) (hs j hj) ?_;obtain ⟨a,b,e1,_,h1⟩:=Z4 hW0 hH0 hW hH i;obtain ⟨c,d,e2,_,h2⟩:=Z4 hW0 hH0 hW hH j;rw [e1,e2];intro h;refine ZZ hW0 hH0 hi hj hij ?_;rcases h with ⟨rfl,rfl⟩ | ⟨rfl,rfl⟩ <;> rcases h1 with ⟨p1,p2⟩ | ⟨p1,p2⟩ <;> rcases h2 with ⟨q1,q2⟩ | ⟨q1,q2⟩
  ·exact .inl ⟨p1.symm.trans q1,p2.symm.trans q2⟩
  ·exact .inr ⟨p1.symm.trans q1,p2.symm.trans q2⟩
  ·exact .inr ⟨p2.symm.trans q2,p1.symm.trans q1⟩
  ·exact .inl ⟨p2.symm.trans q2,p1.symm.trans q1⟩
  ·exact .inr ⟨p1.symm.trans q2,p2.symm.trans q1⟩
  ·exact .inl ⟨p1.symm.trans q2,p2.symm.trans q1⟩
  ·exact .inl ⟨p2.symm.trans q1,p1.symm.trans q2⟩
  ·exact .inr ⟨p2.symm.trans q1,p1.symm.trans q2⟩
 ·obtain ⟨i,hi,rfl⟩:=JS.1 (hP.mem_iff.1 hx);exact hs i (Q7.1 hi)
def NewCPostW (W H:Int) (w:World) (e:Ending) (w':World):Prop:=
 ∃ cb mb b db v E L D,e=.returned (.pointer (some ⟨cb,0,none⟩))/\CdtAt w' cb mb b db v W H E D/\CInvW W H E L D/\L.length=2/\(∀ q,someC L q↔q=⟨0,0⟩\/q=⟨W,0⟩\/q=⟨W,H⟩\/q=⟨0,H⟩)/\D.Perm [sqW W H 0,sqW W H 1,sqW W H 2,sqW W H 3]/\Below w w w'/\w.heap.size<=b/\w.heap.size<=db/\w.heap.size<=mb/\w.heap.size<=cb
theorem rnewcdtX_any (W H:Int) (hW0:0 < W) (hH0:0 < H) (hW:W < 16777216) (hH:H < 16777216) (w:World):Calls prog 18 #[W,H] w (NewCPostW W H w):=by
 have k1:decide (W < 1)=false:=by simp;omega
 have k2:decide (16777216<=W)=false:=by simp;omega
 have k3:decide (H < 1)=false:=by simp;omega
 have k4:decide (16777216<=H)=false:=by simp;omega
 have vb:∀ q,inBox W H q->vld q=true:=λq hq=>by rw [zh];unfold inBox at hq;omega
 have v0:vld (⟨0,0⟩:Pt)=true:=vb _ (by unfold inBox;simp only;omega);have v1:vld (⟨W,0⟩:Pt)=true:=vb _ (by unfold inBox;simp only;omega);have v2:vld (⟨W,H⟩:Pt)=true:=vb _ (by unfold inBox;simp only;omega);have v3:vld (⟨0,H⟩:Pt)=true:=vb _ (by unfold inBox;simp only;omega);have pWH:=JP hW0 hH0;have d1:0 < det (⟨0,0⟩:Pt) ⟨W,0⟩ ⟨W,H⟩:=by
  have:det (⟨0,0⟩:Pt) ⟨W,0⟩ ⟨W,H⟩=W * H:=by unfold det;grind
  omega
 have d2:0 < det (⟨0,0⟩:Pt) ⟨W,H⟩ ⟨0,H⟩:=by
  have:det (⟨0,0⟩:Pt) ⟨W,H⟩ ⟨0,H⟩=W * H:=by unfold det;grind
  omega
 obtain ⟨cX,vX⟩:=yG v0 v1 v2 d1;obtain ⟨cY,vY⟩:=yG v0 v2 v3 d2;have tS:=tiles_square hW0 hH0 cX cY;have o1:¬ ori (⟨0,0⟩:Pt) ⟨W,0⟩ ⟨W,H⟩=0:=by rw [ori_v v0 v1 v2,yZ];omega
 have o2:¬ ori (⟨0,0⟩:Pt) ⟨W,H⟩ ⟨0,H⟩=0:=by rw [ori_v v0 v2 v3,yZ];omega
 have c1:=yT ⟨0,0⟩ ⟨W,0⟩ ⟨W,H⟩;have c2:=yT ⟨0,0⟩ ⟨W,H⟩ ⟨0,H⟩;rw [show (!decide (ori (⟨0,0⟩:Pt) ⟨W,0⟩ ⟨W,H⟩=0))=true by simp [o1]] at c1;rw [show (!decide (ori (⟨0,0⟩:Pt) ⟨W,H⟩ ⟨0,H⟩=0))=true by simp [o2]] at c2;dsimp only at c1 c2;have HC:=hdd (show ∀ q,someC [mk ⟨0,0⟩ ⟨W,0⟩ ⟨W,H⟩,mk ⟨0,0⟩ ⟨W,H⟩ ⟨0,H⟩] q↔q=⟨0,0⟩\/q=⟨W,0⟩\/q=⟨W,H⟩\/q=⟨0,H⟩ from λq=>by
  simp only [kA,cX.cnr_iff,cY.cnr_iff,UC (jD q),Jp];constructor
  ·rintro ((k | k | k) | (k | k | k)) <;> simp [k]
  ·rintro (k | k | k | k) <;> simp [k])
 generalize mk ⟨0,0⟩ ⟨W,0⟩ ⟨W,H⟩=X at *
 generalize mk ⟨0,0⟩ ⟨W,H⟩ ⟨0,H⟩=Y at *
 have hok:∀ T∈[X,Y],okT T:=λT hT=>by
  simp only [J1,JI,Jp] at hT;rcases hT with rfl | rfl
  ·exact ye vX
  ·exact ye vY
 have gp:=Good.puts (I:=[X,Y]) (E:=[]) (M:=[]) ⟨.refl _,UL,λT hT=>by cases hT⟩ (λT hT=>by
  simp only [J1,JI,Jp] at hT;rcases hT with rfl | rfl
  ·exact vX
  ·exact vY) tS.once
 have cn:=λa w0 R=>rnew_any a 2 2 [X,Y] (hdd rfl) (by omega) hok w0 R;have HT:=hdd tS;have HXY:=hdd (show edgeL [X,Y] ⟨0,0⟩ ⟨W,0⟩/\edgeL [X,Y] ⟨W,0⟩ ⟨W,H⟩/\edgeL [X,Y] ⟨W,H⟩ ⟨0,H⟩/\edgeL [X,Y] ⟨0,H⟩ ⟨0,0⟩ from ⟨.inl (y7 (by simp) cX.way),.inl (y7 (by simp) cX.turn.way),.inl (y7 (by simp) cY.turn.way),.inl (y7 (by simp) cY.turn.turn.way)⟩);have HG:=hdd gp;have cs:=rsquare_any W H;clear v0 v1 v2 v3 vb d1 d2 o1 o2 cX cY vX vY hok tS gp pWH
 go_enter func18,ntmps18
 go_wp2_with fail;refine (cs _).mono ?_;rintro e w1 ⟨rfl,hb⟩;have hw:=hb;clear hb;go_wp2_with fail;refine zI λW2 hW=>?_;obtain ⟨bkq,hbq⟩:∃ b,w1.heap.size=b:=⟨_,rfl⟩;rw [hbq];obtain ⟨fq,Bq,hw⟩:=qM0 hW hbq hw;clear hW hbq;refine qC1 (c1 _) Bq hw λw3 Bq hw Fq=>?_;go_wp2_with fail;clear Fq;refine zI λW4 hW=>?_;obtain ⟨bkx,hbx⟩:∃ b,w3.heap.size=b:=⟨_,rfl⟩;rw [hbx];obtain ⟨lqx,fx,Bx,Bq,hw⟩:=qM1 hW hbx Bq hw;clear hW hbx;refine qC2 (c2 _) Bq Bx hw λw5 Bq Bx hw RW=>?_;go_wp2_with fail;clear RW;refine zI λW9 hW=>?_;have R1:RowAt cT 6 W9 (some ⟨w5+1,0,none⟩) [X,Y]:=vF (S:=[X,Y]) (by rw [hW];exact Box.new (by simp));have Bq9:Box W9 bkq [(),(),W,(),W,H,(),H] 86:=by rw [hW];exact (Bq.old _).old _
 replace hw:Below w w W9:=by have:=hw.size;rw [hW];go_grown
 have lq:=Bq.lt;have lq9:=Bq9.lt;clear hW Bq Bx;refine (cn _ _ R1).mono ?_;rintro e w10 hpost;unfold RNewPost at hpost;obtain ⟨mb,b,rfl,BM,HM,hbl,hml,hb,_⟩ | ⟨_,_,h⟩:=hpost
 rotate_left
 ·exact absurd h (by rw [HG.o.1];simp)
 have Bq10:=Bq9.ee hb;have hw10:=(upB hw hb);have hl1:=hw.size;replace hbl:=JY hl1 hbl;replace hml:=JY hl1 hml;have lm:=BM.lt;have lb:=HM.lt;have lq10:=Bq10.lt;generalize (putRun [] [X,Y]).2=E at *
 have HG:=hdd HG.o.2;clear hb cn R1 Bq9 hw c1 c2 cs;go_wp2;refine zG λW11 hW=>?_;have So:DocAt W11 w10.heap.size (.slice none 0 0) []:=⟨by rw [hW];exact (Box.new rfl).old _,World.ownsRow_nil _ _ _ _,by simp [Value.ownBlock],by simp⟩;have Bc:Box W11 (w10+1) [W,H,pt0 mb,pt0 w10.heap.size] 58:=by rw [hW];exact Box.new (by simp)
 have Bq:Box W11 bkq [(),(),W,(),W,H,(),H] 86:=by rw [hW];exact (Bq10.old _).old _
 have Bm:Box W11 mb [.map (some b)] 98:=by rw [hW];exact (BM.old _).old _
 have Hm:Hs W11 b E:=by rw [hW];exact (HM.alloc _).alloc _
 have hw:Below w w W11:=by have:=hw10.size;rw [hW];go_grown
 have hws:=hw10.size;clear hW BM HM Bq10 hw10;obtain ⟨db,hdb⟩:∃ db,w10.heap.size=db:=⟨_,rfl⟩;rw [hdb] at So Bc lm lb lq10 hws;rw [hdb];clear hdb;have HP0:=hdd (show ([]:List Wl).Perm ((List.range 0).map (sqW W H))/\Ris ([]:List Wl) from ⟨.refl _,List.Pairwise.nil⟩)
 go_loopw [11] (λv11 wr=>∃ (k:Nat) (j:Int) (v:Value) (D:List Wl),k<=4/\v11=.int .i64 j/\Hi (j=k)/\DocAt wr db v D/\Hi (D.Perm ((List.range k).map (sqW W H))/\Ris D)/\Box wr bkq [(),(),W,(),W,H,(),H] 86/\Box wr (db+1) [W,H,pt0 mb,pt0 db] 58/\Box wr mb [.map (some b)] 98/\Hs wr b E/\Below w w wr) (λv11 _=>4 - (intOf v11).toNat)
 case atStart=>exact ⟨0,0,_,[],by omega,rfl,hdd rfl,So,HP0,Bq,Bc,Bm,Hm,hw⟩
 case round=>
  clear So Bq Bc Bm Hm hw HP0;obtain ⟨k,j,v,D,hk,rfl,hj,So,HP,Bq,Bc,Bm,Hm,hw⟩:=hrel;have hk':k=0\/k=1\/k=2\/k=3\/k=4:=by omega
  rcases hk' with rfl | rfl | rfl | rfl | rfl
  ·have hj:j=0:=by simpa using hj.o
   subst hj;have cw:=kx ⟨0,0⟩ ⟨W,0⟩ 2;have HZ:=hdd (show (List.range (0+1)).map (sqW W H)=(List.range 0).map (sqW W H) ++ [mkW ⟨0,0⟩ ⟨W,0⟩ 2] by rw [V9,QC];rfl);have hZk:=xu ⟨0,0⟩ ⟨W,0⟩;have HNE:=hdd (show ∀ x∈D,x≠mkW ⟨0,0⟩ ⟨W,0⟩ 2 from λx hx e=>Xx hW0 hH0 hW hH (k:=0) (by omega) x (HP.o.1.mem_iff.1 hx) e);dsimp only at cw;generalize mkW ⟨0,0⟩ ⟨W,0⟩ 2=Z at *
   generalize mkOk ⟨0,0⟩ ⟨W,0⟩ 2=zk at *
   have hq1:IntKind.i64.wrap (0+1)=1:=by decide
   have hq2:IntKind.i64.wrap 1=1:=by decide
   have Fq:=Bq.f;have Fc:=Bc.f;go_wp2_with fail;have gq:=Bq.cells;have gc:=Bc.cells;refine rgl5 12 12 75 (λw41 bkz hb h1b h2b Bz=>?_);have lqz:=Bq.lt;have lcz:=Bc.lt;have hw0z:=hw.size;clear gq gc;clear Fq Fc;obtain ⟨Bq,Bc,hw,-⟩:=qX2 Bq Bc hw hb;have fz:=h1b;have hwz:w.heap.size<=wr.heap.size:=hw0z;replace So:=So.ee hb;replace Bm:=Bm.ee hb;replace Hm:=Hm.ee hb;clear hb h1b h2b hw0z;simp only [Act.put];have GW:=J3 Bq.f Bc.f Bz.f;go_wp2_with fail;clear GW;have gc:=Bc.cells;have gz:=Bz.cells;refine rgn 5 (λw60 hb=>?_);clear gc gz;replace So:=So.ee hb;replace Bm:=Bm.ee hb;replace Hm:=Hm.ee hb;obtain ⟨Bq,Bc,hw,-⟩:=qX2 Bq Bc hw hb;clear hb Bz;have hlD:D.length=0:=by have:=HP.o.1.length_eq;simpa using this
   have hkD:∀ x∈D,0<=x.K/\x.K<=2:=λx hx=>by
    obtain ⟨i,_,rfl⟩:=JS.1 (HP.o.1.mem_iff.1 hx);exact xu _ _
   have cp:=xq db v D Z (by omega) hkD hZk w60 So;clear hlD hkD;go_wp2_with fail;refine cp.mono ?_;rintro e w61 ⟨kp,v',rfl,hk5,So5,hf5,hv5⟩;have hdw:w.heap.size<=db:=hws;have hbd:(some b)≠(some db):=λe=>So.box.ne_map Hm (JU e).symm;have Bq5:=hf5.box Bq (by omega);have Bc5:=hf5.box Bc (by omega);have Bm5:=hf5.box Bm (by omega);have Hm5:=Hm.kept hf5.grown hbd;have hw5:=hw.trans (hf5.below (n:=w.heap.size) (λk hk=>by rw [hk];exact hdw) hw.size);have HP5:=hdd (show (D.take kp ++ Z :: D.drop kp).Perm ((List.range (0+1)).map (sqW W H))/\Ris (D.take kp ++ Z :: D.drop kp) from ⟨by
    rw [HZ.o];exact (xV kp).trans ((HP.o.1.cons _).trans (Jq (l₁:=[Z]))),jU HP.o.2 hk5 HNE.o⟩)
   clear cp HP HZ HNE hk5 hf5 hv5 So Bq Bc Bm Hm hw;go_wp2
   go_roundw
   case rel=>exact ⟨1,1,v',_,by omega,by first | rfl | go_num,hdd rfl,So5,HP5,Bq5,Bc5,Bm5,Hm5,hw5⟩
   case measure=>simp [intOf]
  ·have hj:j=1:=by simpa using hj.o
   subst hj;have cw:=kx ⟨W,0⟩ ⟨W,H⟩ 2;have HZ:=hdd (show (List.range (1+1)).map (sqW W H)=(List.range 1).map (sqW W H) ++ [mkW ⟨W,0⟩ ⟨W,H⟩ 2] by rw [V9,QC];rfl);have hZk:=xu ⟨W,0⟩ ⟨W,H⟩;have HNE:=hdd (show ∀ x∈D,x≠mkW ⟨W,0⟩ ⟨W,H⟩ 2 from λx hx e=>Xx hW0 hH0 hW hH (k:=1) (by omega) x (HP.o.1.mem_iff.1 hx) e);dsimp only at cw;generalize mkW ⟨W,0⟩ ⟨W,H⟩ 2=Z at *
   generalize mkOk ⟨W,0⟩ ⟨W,H⟩ 2=zk at *
   have hq1:IntKind.i64.wrap (1+1)=2:=by decide
   have hq2:IntKind.i64.wrap 2=2:=by decide
   have Fq:=Bq.f;have Fc:=Bc.f;go_wp2_with fail;have gq:=Bq.cells;have gc:=Bc.cells;refine rgl5 12 12 75 (λw41 bkz hb h1b h2b Bz=>?_);have lqz:=Bq.lt;have lcz:=Bc.lt;have hw0z:=hw.size;clear gq gc;clear Fq Fc;obtain ⟨Bq,Bc,hw,-⟩:=qX2 Bq Bc hw hb;have fz:=h1b;have hwz:w.heap.size<=wr.heap.size:=hw0z;replace So:=So.ee hb;replace Bm:=Bm.ee hb;replace Hm:=Hm.ee hb;clear hb h1b h2b hw0z;simp only [Act.put];have GW:=J3 Bq.f Bc.f Bz.f;go_wp2_with fail;clear GW;have gc:=Bc.cells;have gz:=Bz.cells;refine rgn 5 (λw60 hb=>?_);clear gc gz;replace So:=So.ee hb;replace Bm:=Bm.ee hb;replace Hm:=Hm.ee hb;obtain ⟨Bq,Bc,hw,-⟩:=qX2 Bq Bc hw hb;clear hb Bz;have hlD:D.length=1:=by have:=HP.o.1.length_eq;simpa using this
   have hkD:∀ x∈D,0<=x.K/\x.K<=2:=λx hx=>by
    obtain ⟨i,_,rfl⟩:=JS.1 (HP.o.1.mem_iff.1 hx);exact xu _ _
   have cp:=xq db v D Z (by omega) hkD hZk w60 So;clear hlD hkD;go_wp2_with fail;refine cp.mono ?_;rintro e w61 ⟨kp,v',rfl,hk5,So5,hf5,hv5⟩;have hdw:w.heap.size<=db:=hws;have hbd:(some b)≠(some db):=λe=>So.box.ne_map Hm (JU e).symm;have Bq5:=hf5.box Bq (by omega);have Bc5:=hf5.box Bc (by omega);have Bm5:=hf5.box Bm (by omega);have Hm5:=Hm.kept hf5.grown hbd;have hw5:=hw.trans (hf5.below (n:=w.heap.size) (λk hk=>by rw [hk];exact hdw) hw.size);have HP5:=hdd (show (D.take kp ++ Z :: D.drop kp).Perm ((List.range (1+1)).map (sqW W H))/\Ris (D.take kp ++ Z :: D.drop kp) from ⟨by
    rw [HZ.o];exact (xV kp).trans ((HP.o.1.cons _).trans (Jq (l₁:=[Z]))),jU HP.o.2 hk5 HNE.o⟩)
   clear cp HP HZ HNE hk5 hf5 hv5 So Bq Bc Bm Hm hw;go_wp2
   go_roundw
   case rel=>exact ⟨2,2,v',_,by omega,by first | rfl | go_num,hdd rfl,So5,HP5,Bq5,Bc5,Bm5,Hm5,hw5⟩
   case measure=>simp [intOf]
  ·have hj:j=2:=by simpa using hj.o
   subst hj;have cw:=kx ⟨W,H⟩ ⟨0,H⟩ 2;have HZ:=hdd (show (List.range (2+1)).map (sqW W H)=(List.range 2).map (sqW W H) ++ [mkW ⟨W,H⟩ ⟨0,H⟩ 2] by rw [V9,QC];rfl);have hZk:=xu ⟨W,H⟩ ⟨0,H⟩;have HNE:=hdd (show ∀ x∈D,x≠mkW ⟨W,H⟩ ⟨0,H⟩ 2 from λx hx e=>Xx hW0 hH0 hW hH (k:=2) (by omega) x (HP.o.1.mem_iff.1 hx) e);dsimp only at cw;generalize mkW ⟨W,H⟩ ⟨0,H⟩ 2=Z at *
   generalize mkOk ⟨W,H⟩ ⟨0,H⟩ 2=zk at *
   have hq1:IntKind.i64.wrap (2+1)=3:=by decide
   have hq2:IntKind.i64.wrap 3=3:=by decide
   have Fq:=Bq.f;have Fc:=Bc.f;go_wp2_with fail;have gq:=Bq.cells;have gc:=Bc.cells;refine rgl5 12 12 75 (λw41 bkz hb h1b h2b Bz=>?_);have lqz:=Bq.lt;have lcz:=Bc.lt;have hw0z:=hw.size;clear gq gc;clear Fq Fc;obtain ⟨Bq,Bc,hw,-⟩:=qX2 Bq Bc hw hb;have fz:=h1b;have hwz:w.heap.size<=wr.heap.size:=hw0z;replace So:=So.ee hb;replace Bm:=Bm.ee hb;replace Hm:=Hm.ee hb;clear hb h1b h2b hw0z;simp only [Act.put];have GW:=J3 Bq.f Bc.f Bz.f;go_wp2_with fail;clear GW;have gc:=Bc.cells;have gz:=Bz.cells;refine rgn 5 (λw60 hb=>?_);clear gc gz;replace So:=So.ee hb;replace Bm:=Bm.ee hb;replace Hm:=Hm.ee hb;obtain ⟨Bq,Bc,hw,-⟩:=qX2 Bq Bc hw hb;clear hb Bz;have hlD:D.length=2:=by have:=HP.o.1.length_eq;simpa using this
   have hkD:∀ x∈D,0<=x.K/\x.K<=2:=λx hx=>by
    obtain ⟨i,_,rfl⟩:=JS.1 (HP.o.1.mem_iff.1 hx);exact xu _ _
   have cp:=xq db v D Z (by omega) hkD hZk w60 So;clear hlD hkD;go_wp2_with fail;refine cp.mono ?_;rintro e w61 ⟨kp,v',rfl,hk5,So5,hf5,hv5⟩;have hdw:w.heap.size<=db:=hws;have hbd:(some b)≠(some db):=λe=>So.box.ne_map Hm (JU e).symm;have Bq5:=hf5.box Bq (by omega);have Bc5:=hf5.box Bc (by omega);have Bm5:=hf5.box Bm (by omega);have Hm5:=Hm.kept hf5.grown hbd;have hw5:=hw.trans (hf5.below (n:=w.heap.size) (λk hk=>by rw [hk];exact hdw) hw.size);have HP5:=hdd (show (D.take kp ++ Z :: D.drop kp).Perm ((List.range (2+1)).map (sqW W H))/\Ris (D.take kp ++ Z :: D.drop kp) from ⟨by
    rw [HZ.o];exact (xV kp).trans ((HP.o.1.cons _).trans (Jq (l₁:=[Z]))),jU HP.o.2 hk5 HNE.o⟩)
   clear cp HP HZ HNE hk5 hf5 hv5 So Bq Bc Bm Hm hw;go_wp2
   go_roundw
   case rel=>exact ⟨3,3,v',_,by omega,by first | rfl | go_num,hdd rfl,So5,HP5,Bq5,Bc5,Bm5,Hm5,hw5⟩
   case measure=>simp [intOf]
  ·have hj:j=3:=by simpa using hj.o
   subst hj;have cw:=kx ⟨0,H⟩ ⟨0,0⟩ 2;have HZ:=hdd (show (List.range (3+1)).map (sqW W H)=(List.range 3).map (sqW W H) ++ [mkW ⟨0,H⟩ ⟨0,0⟩ 2] by rw [V9,QC];rfl);have hZk:=xu ⟨0,H⟩ ⟨0,0⟩;have HNE:=hdd (show ∀ x∈D,x≠mkW ⟨0,H⟩ ⟨0,0⟩ 2 from λx hx e=>Xx hW0 hH0 hW hH (k:=3) (by omega) x (HP.o.1.mem_iff.1 hx) e);dsimp only at cw;generalize mkW ⟨0,H⟩ ⟨0,0⟩ 2=Z at *
   generalize mkOk ⟨0,H⟩ ⟨0,0⟩ 2=zk at *
   have hq1:IntKind.i64.wrap (3+1)=4:=by decide
   have hq2:IntKind.i64.wrap 4=4:=by decide
   have Fq:=Bq.f;have Fc:=Bc.f;go_wp2_with fail;have gq:=Bq.cells;have gc:=Bc.cells;refine rgl5 12 12 75 (λw41 bkz hb h1b h2b Bz=>?_);have lqz:=Bq.lt;have lcz:=Bc.lt;have hw0z:=hw.size;clear gq gc;clear Fq Fc;obtain ⟨Bq,Bc,hw,-⟩:=qX2 Bq Bc hw hb;have fz:=h1b;have hwz:w.heap.size<=wr.heap.size:=hw0z;replace So:=So.ee hb;replace Bm:=Bm.ee hb;replace Hm:=Hm.ee hb;clear hb h1b h2b hw0z;simp only [Act.put];have GW:=J3 Bq.f Bc.f Bz.f;go_wp2_with fail;clear GW;have gc:=Bc.cells;have gz:=Bz.cells;refine rgn 5 (λw60 hb=>?_);clear gc gz;replace So:=So.ee hb;replace Bm:=Bm.ee hb;replace Hm:=Hm.ee hb;obtain ⟨Bq,Bc,hw,-⟩:=qX2 Bq Bc hw hb;clear hb Bz;have hlD:D.length=3:=by have:=HP.o.1.length_eq;simpa using this
   have hkD:∀ x∈D,0<=x.K/\x.K<=2:=λx hx=>by
    obtain ⟨i,_,rfl⟩:=JS.1 (HP.o.1.mem_iff.1 hx);exact xu _ _
   have cp:=xq db v D Z (by omega) hkD hZk w60 So;clear hlD hkD;go_wp2_with fail;refine cp.mono ?_;rintro e w61 ⟨kp,v',rfl,hk5,So5,hf5,hv5⟩;have hdw:w.heap.size<=db:=hws;have hbd:(some b)≠(some db):=λe=>So.box.ne_map Hm (JU e).symm;have Bq5:=hf5.box Bq (by omega);have Bc5:=hf5.box Bc (by omega);have Bm5:=hf5.box Bm (by omega);have Hm5:=Hm.kept hf5.grown hbd;have hw5:=hw.trans (hf5.below (n:=w.heap.size) (λk hk=>by rw [hk];exact hdw) hw.size);have HP5:=hdd (show (D.take kp ++ Z :: D.drop kp).Perm ((List.range (3+1)).map (sqW W H))/\Ris (D.take kp ++ Z :: D.drop kp) from ⟨by
    rw [HZ.o];exact (xV kp).trans ((HP.o.1.cons _).trans (Jq (l₁:=[Z]))),jU HP.o.2 hk5 HNE.o⟩)
   clear cp HP HZ HNE hk5 hf5 hv5 So Bq Bc Bm Hm hw;go_wp2
   go_roundw
   case rel=>exact ⟨4,4,v',_,by omega,by first | rfl | go_num,hdd rfl,So5,HP5,Bq5,Bc5,Bm5,Hm5,hw5⟩
   case measure=>simp [intOf]
  ·have hj:j=4:=by simpa using hj.o
   subst hj;have gc:=Bc.cells;go_wp2_with fail;refine rgn 8 (λw60 hb=>?_);clear gc;have S6:CdtAt w60 (db+1) mb b db v W H E D:=⟨Bc.ee hb,Bm.ee hb,Hm.ee hb,So.ee hb,by omega,by omega⟩;have hw6:=(upB hw hb);obtain ⟨a9,c9,hv9,Dr,_⟩:=S6.doc.rd;have cr:=kf mb b db a9 c9 D.length E [X,Y] D W H hW hH (by simp) HG.o HT.o w60 S6.mesh S6.map Dr;clear hb So Bq Bc Bm Hm hw hv9 Dr;go_wp2_with fail;refine cr.mono ?_;rintro e w7 ⟨rfl,E2,L2,g5,H5,r5,f5⟩;have S7:CdtAt w7 (db+1) mb b db v W H E2 D:=⟨S6.box.turn S6.map g5,S6.mesh.turn S6.map g5,H5,S6.doc.turn S6.map g5,S6.cdb,S6.mdb⟩;have hw7:=hw6.grown g5 hw6.size (λk hk=>by cases hk;exact hbl);have HI:=hdd (show CInvW W H E2 L2 D from ⟨r5.good,f5,λx hx=>by
    obtain ⟨i,_,rfl⟩:=JS.1 (HP.o.1.mem_iff.1 hx);exact xu _ _,(winv_square hW0 hH0 hW hH HT.o HXY.o HP.o.1 HP.o.2).kept r5.kept,λx hx _=>by
    obtain ⟨i,hi,rfl⟩:=JS.1 (HP.o.1.mem_iff.1 hx);exact sqW_rim hW0 hH0 hW hH i⟩)
   have HL:=hdd (show L2.length=2 by rw [r5.kept.len];rfl);have HQ:=hdd (show ∀ q,someC L2 q↔q=⟨0,0⟩\/q=⟨W,0⟩\/q=⟨W,H⟩\/q=⟨0,H⟩ from λq=>(r5.kept.cnr q).trans (HC.o q));have HP4:=hdd (show D.Perm [sqW W H 0,sqW W H 1,sqW W H 2,sqW W H 3] from HP.o.1);clear cr g5 H5 r5 f5 S6 hw6;go_wp2
   go_ret
   exact ⟨db+1,mb,b,db,v,E2,L2,D,rfl,S7,HI.o,HL.o,HQ.o,HP4.o,hw7,hbl,hws,hml,by omega⟩
def Sq0 (s:Int) (L:List Tri3) (D:List Wl):Prop:=L.length=2/\D.Perm [sqW s s 0,sqW s s 1,sqW s s 2,sqW s s 3]
def Built9D (s:Int) (P:List Int) (Q:List Pt) (m0:Nat) (w:World) (e:Ending) (w':World):Prop:=
 ∃ n0 m2 b2 sb v7 cb mb b db v E2 E L D,e=.returned (.tuple #[pt0 m2,pt0 sb,pt0 cb])/\Box w' m2 [.map (some b2)] 83/\Hs w' b2 E2/\Good E2 L/\SetAt w' sb v7 D /\
  CdtAt w' cb mb b db v s s E D/\CInvW s s E L D/\(∀ q,someC L q↔PutPt s P q)/\L.length<=2+2 * P.length/\D.length<=6000/\RunW s P Q m0 D/\(m0=0->P.length=0->Sq0 s L D)/\Below w w w'/\w.heap.size<=b/\w.heap.size<=db /\
  w.heap.size<=n0/\(cb < n0/\mb < n0/\b < n0/\db < n0/\∀ g,v.ownBlock=some g->g < n0)/\n0<=m2/\n0<=b2/\n0<=sb/\(∀ g,v7.ownBlock=some g->n0<=g)/\m2 < sb/\¬ Foot sb v7 m2
theorem ku (s:Int) (hs:0 < s) (hs2:s<=60) (a0 a1:Option Addr) (n m0 c0 c1:Nat) (P:List Int) (hP:Hi (P.length=n)) (hn:n<=30) (Q:List Pt) (hQ:Hi (Q.length=m0)) (hm0:m0<=30) (w:World) (h0:RowAt cI 1 w a0 P) (hq0:RowAt cP 2 w a1 Q):Calls prog 6 #[s,.slice a0 n c0,.slice a1 m0 c1] w (Built9D s P Q m0 w):=by
 have cn:=rnewcdtX_any s s hs hs (by omega) (by omega);have csp:=λx=>uB s x hs hs2
 go_enter func6,ntmps6
 go_wp2_with fail;refine (cn _).mono ?_;rintro e w1 ⟨cb,mb,b,db,v,E,L,D,rfl,S,hI,hL,hC,hD,hw,hb1,hb2,hb3,hb4⟩;have hC':=hdd (show ∀ q,someC L q↔PutPt s [] q from λq=>by rw [hC q];simp [PutPt]);have hI':=hdd hI;have hL':=hdd (show L.length<=2+2 * 0 by omega);have hD':=hdd (show D.length<=4+2 * 0 by rw [hD.length_eq];simp);have hK':=hdd (show 0=0->Sq0 s L D from λ_=>⟨hL,hD⟩);have hR':=hdd (show RunP s P 0 D from ⟨hI.wal.ris,hD⟩);replace hb1:=hdd hb1;replace hb2:=hdd hb2;clear cn hI hL hC hD;go_wp2_with fail
 go_loopw [10] (λvi wr=>∃ (k:Nat) (v:Value) (E:Es) (L:List Tri3) (D:List Wl),vi=.int .i64 k/\k<=n/\CdtAt wr cb mb b db v s s E D/\Hi (CInvW s s E L D)/\Hi (∀ q,someC L q↔PutPt s (P.take k) q)/\Hi (L.length<=2+2 * k)/\Hi (D.length<=4+2 * k)/\Hi (RunP s P k D)/\Hi (k=0->Sq0 s L D)/\Below w w wr) (λvi _=>n - (intOf vi).toNat)
 case atStart=>exact ⟨0,v,E,L,D,rfl,Jl _,S,hI',by simpa using hC',hL',hD',hR',hdd (λ_=>hK'.o trivial),hw⟩
 case round=>
  clear S hI' hC' hL' hD' hR' hK' hw;obtain ⟨k,v,E,L,D,rfl,hk,S,hI,hC,hL,hD,hR,hK,hw⟩:=hrel;by_cases hlt:k < n
  case neg=>
   obtain rfl:n=k:=by omega
   have hC2:=hdd (show ∀ q,someC L q↔PutPt s P q from λq=>by rw [hC.o q,JV (by rw [hP.o];omega)]);clear hC hlt hk;have hDQ:=hdd (show D.length<=64+186 * 0 by have:=hD.o;omega);have hKQ:=hK;have hRQ:=hdd (show RunW s P Q 0 D from by have:=hR.o;rw [<-hP.o] at this;exact this);clear hK hR;have hLQ:=hdd (show L.length<=2+2 * n from hL.o);clear hD hL;go_wp2
   go_loopw [11] (λvi wr=>∃ (k:Nat) (v:Value) (E:Es) (L:List Tri3) (D:List Wl),vi=.int .i64 k/\k<=m0/\CdtAt wr cb mb b db v s s E D/\Hi (CInvW s s E L D)/\Hi (∀ q,someC L q↔PutPt s P q)/\Hi (L.length<=2+2 * n)/\Hi (D.length<=64+186 * k)/\Hi (RunW s P Q k D)/\Hi (k=0->n=0->Sq0 s L D)/\Below w w wr) (λvi _=>m0 - (intOf vi).toNat)
   case atStart=>exact ⟨0,v,E,L,D,rfl,Jl _,S,hI,hC2,hLQ,hDQ,hRQ,hdd (λ_=>hKQ.o),hw⟩
   case round=>
    clear S hI hC2 hLQ hDQ hRQ hKQ hw;obtain ⟨k,v,E,L,D,rfl,hk,S,hI,hC2,hL,hD,hR,hKQ,hw⟩:=hrel;by_cases hlt:k < m0
    case neg=>
     have hkn:¬ (k:Int) < (m0:Int):=by omega
     have hRR:=hdd (show RunW s P Q m0 D from by have:=hR.o;rwa [show k=m0 by omega] at this);clear hlt hR;have hG:=hI.o.good;have hLk:=hL.o;have hE:E.length<=1000000:=by rw [hG.len];omega
     have ht:=λW B H=>rtris_any mb b E hE W B H;have hp0:(srt cmpT (heads (λ_=>true) E)).Perm L:=(zU _).trans hG.heads;generalize srt cmpT (heads (λ_=>true) E)=I at *
     obtain ⟨m,hm⟩:∃ m,I.length=m:=⟨_,rfl⟩;rw [hm] at ht;have hm1:m<=1000000:=by rw [<-hm,hp0.length_eq];omega
     have hv:∀ T∈I,valT T=true:=λT h=>hG.val T (hp0.mem_iff.1 h);have hgo:=Good.puts (I:=I) (E:=[]) (M:=[]) ⟨by simp,by simp [KeysNodup],by simp⟩ hv (by
      rw [Ji];exact ((hp0.flatMap_right ways).nodup_iff).2 hG.once)
     rw [Ji,hm] at hgo;obtain ⟨hg1,hg2⟩:=hgo;have hG2:=hdd (show Good (putRun [] I).2 L from ⟨hg2.perm.trans (hp0.flatMap_right wys),hg2.nodup,hG.val⟩);have hn2:=λa cap W H=>mnew_1 a cap m I (hdd hm) hm1 (λT h=>ye (hv T h)) hg1 W H;clear hg1 hg2 hv hp0 hm1 hE hG hLk hm;have Fs:=S.box.f;go_wp2_with fail;clear Fs;refine (ht _ S.mesh S.map).mono ?_;rintro e w5 ⟨a5,c5,rfl,hr5,hb⟩;replace S:=S.ee hb;have hw5:=(upB hw hb);clear hb ht hw;go_wp2_with fail;refine (hn2 _ _ _ hr5).mono ?_;rintro e w6 ⟨m2,b2,rfl,B2,H2,h1,h2,hb⟩;have S6:=S.ee hb;have hw6:=(upB hw5 hb);have hbl:=S.map.lt;have hdl:=S.doc.box.lt;have hcl:=S.box.lt;have hml:=S.mesh.lt;have hvl:=hdd (show ∀ g,v.ownBlock=some g->g < w5.heap.size from λg hg=>(S.doc.row.lt g hg).2);have hs6:=hb.size;clear hb hn2 hr5;obtain ⟨a9,c9,rfl,Dr,hz⟩:=S6.doc.rd;have hD9:D.length < 1000000:=by have:=hD.o;omega
     have cw:=λW R=>new_set (a:=a9) (c:=c9) hD9 Dr.flat (λe=>(hz e).1) hI.o.wal.ris hI.o.wal.apart hI.o.wal.good W R;have Fs:=S6.box.f;have Fd:=Dr.box.f;go_wp2_with fail;clear Fs Fd;refine (cw _ Dr.row).mono ?_;rintro e w7 ⟨sb,v7,rfl,A7,hs7,ho7,hb⟩;have hm7:=B2.lt;have hbs:=hb.size;have HF:=hdd (show ¬ Foot sb v7 m2 from λh=>by
      rcases h with h | h
      ·omega
      ·have:=ho7 _ h;omega)
     have HO:=hdd (show ∀ g,v7.ownBlock=some g->w5.heap.size<=g from λg hg=>by have:=ho7 g hg;omega);clear hbs ho7;have S7:=S6.ee hb;have hw7:=(upB hw6 hb);have B7:=B2.ee hb;have H7:=H2.ee hb;clear hb cw;go_wp2;refine bodyPost_ret (v:=.tuple #[pt0 m2,pt0 sb,pt0 cb]) (by simp [results,results6,go_sem]) rfl ?_;exact ⟨w5.heap.size,m2,b2,sb,v7,cb,mb,b,db,_,_,E,L,D,rfl,B7,H7,hG2.o,A7,S7,hI.o,hC2.o,by rw [hP.o];exact hL.o,by have:=hD.o;omega,hRR.o,λe1 e2=>hKQ.o (by omega) (by rw [<-hP.o];exact e2),hw7,hb1.o,hb2.o,hw5.size,⟨hcl,hml,hbl,hdl,hvl.o⟩,h2,h1,by omega,HO.o,by omega,HF.o⟩
    case pos=>
     have hlk:k < Q.length:=hQ.o▸hlt;obtain ⟨ad,A,ea,eA,hA0⟩:=hq0.two hlk;have hA:=hA0.ee hw;have hRX:=hdd (λ(r:Int) (F:Es) (D':List Wl) (h:AddWR E D (spt s Q[k].x) (spt s Q[k].y) 1 r F D')=>show RunW s P Q (k+1) D' from ⟨hlk,D,E,F,L,r,hR.o,hI.o,hC2.o,h⟩);generalize Q[k]=x at *
     have cs1:=λw0=>uB s x.x hs hs2 w0;have cs2:=λw0=>uB s x.y hs hs2 w0;have hLk:=hL.o;have hDk:=hD.o;have ca:=λp q W0 S0=>rcaddwX_any cb mb b db v s s hs hs (by omega) (by omega) E L D hI.o (by omega) (by omega) p q W0 S0;subst ea;obtain ⟨s0,s1⟩:=hA.cells;have q0:(k:Int) < (m0:Int):=by omega
     clear hA hA0 hLk hDk;go_wp2_with fail;refine wrt 15 (by kernel_rfl) (by kernel_rfl) ?_;simp only [tK1,tK0,dP1,dP0];refine wkx ?_;intro w3 hb;clear s0 s1 cs1 cs2;replace S:=S.ee hb;replace hw:=upB hw hb;clear hb;go_wp2_with fail;refine (ca _ _ w3 S).mono ?_;rintro e w4 ⟨r,v',E1,E',L',D',rfl,S',hI2,hWR,_,_,hC3,hL2,hD2,hf⟩;have hw4:Below w w w4:=hw.trans (hf.below (λj hj=>by have:=hb1.o;have:=hb2.o;rcases hj with rfl | rfl <;> omega) hw.size);have hC4:=hdd (show ∀ q,someC L' q↔PutPt s P q from λq=>(hC3 q).trans (hC2.o q));have hL3:=hdd (show L'.length<=2+2 * n by rw [hL2];exact hL.o);have hD3:=hdd (show D'.length<=64+186 * (k+1) by have:=hL.o;have:=hD.o;omega);have hI3:=hdd hI2;have hR3:=hdd (hRX.o _ _ _ hWR);clear hC3 hL2 hD2 hf hI2 S hw ca hC2 hL hD hI hR hRX hWR;go_wp2_with fail
     go_roundw
     case rel=>exact ⟨k+1,v',E',L',D',by go_num,by omega,S',hI3,hC4,hL3,hD3,hR3,hdd (λe=>absurd e (Nat.succ_ne_zero k)),hw4⟩
     case measure=>simp [intOf];omega
  case pos=>
   have hlk:k < P.length:=hP.o▸hlt;have HN:=hdd (show P.take (k+1)=P.take k ++ [P[k]] from JK hlk);obtain ⟨ad,ea,hab0,hA0⟩:=h0.num hlk;have hA:=(h0.ee hw).num hlk;obtain ⟨ad2,ea2,hab,hA⟩:=hA;obtain rfl:ad=ad2:=by rw [ea] at ea2;exact JU ea2
   clear hA0 ea2;have hRX:=hdd (λ(r:Int) (E':Es) (L':List Tri3) (D':List Wl) (h1:CInvW s s E' L' D') (h2:AddRes s s L (spt s P[k]) r) (h3:r=0->AddD D (spt s P[k]) D') (h4:r≠0->D'=D)=>show RunP s P (k+1) D' from ⟨hlk,D,E,E',L,L',r,hR.o,hI.o,h1,hC.o,h2,h3,h4⟩);generalize P[k]=x at *
   go_wp2_with fail;refine (csp x _).mono ?_;rintro e w3 ⟨rfl,hb⟩;replace S:=S.ee hb;replace hw:=upB hw hb;clear hb hA;go_wp2_with fail;have hLk:=hL.o;have hDk:=hD.o;refine (rcaddA_any cb mb b db v s s hs hs (by omega) (by omega) E L D hI.o (by omega) (by omega) (spt s x) _ S).mono ?_;rintro e w4 ⟨r,v',E',L',D',rfl,S',hI2,hr,hC2,hL2,hD2,hkk,hA0,hA1,hf,_⟩;have hw4:Below w w w4:=hw.trans (hf.below (λj hj=>by have:=hb1.o;have:=hb2.o;rcases hj with rfl | rfl <;> omega) hw.size);have hC3:=hdd (show ∀ q,someC L' q↔PutPt s (P.take (k+1)) q from λq=>by
    rw [hC2 q,hC.o q,HN.o];have hin:inBox s s (spt s x):=Za hs x;unfold PutPt;constructor
    ·rintro ((h | ⟨y,h1,h2⟩) | ⟨h,_⟩)
     ·exact .inl h
     ·exact .inr ⟨y,Jk _ h1,h2⟩
     ·exact .inr ⟨x,by simp,h⟩
    ·rintro (h | ⟨y,h1,h2⟩)
     ·exact .inl (.inl h)
     ·rcases JM.1 h1 with h1 | h1
      ·exact .inl (.inr ⟨y,h1,h2⟩)
      ·rw [QP] at h1;rw [h1] at h2;exact .inr ⟨h2,hin⟩)
   have hL3:=hdd (show L'.length<=2+2 * (k+1) by omega);have hD3:=hdd (show D'.length<=4+2 * (k+1) by omega);have hI3:=hdd hI2;have hR3:=hdd (hRX.o _ _ _ _ hI2 hr hA0 hA1);have hK3:=hdd (show k+1=0->Sq0 s L' D' from λe=>by omega);clear hkk hK;clear hC2 hL2 hD2 hf hr hLk hDk hI2 S hw hR hRX hA0 hA1;go_wp2_with fail;rw [<-ea]
   go_roundw
   case rel=>exact ⟨k+1,v',E',L',D',by go_num,by omega,S',hI3,hC3,hL3,hD3,hR3,hK3,hw4⟩
   case measure=>simp [intOf];omega
def Built9Post (s:Int) (P:List Int) (m0:Nat) (w:World) (e:Ending) (w':World):Prop:=
 ∃ n0 m2 b2 sb v7 cb mb b db v E2 E L D,e=.returned (.tuple #[pt0 m2,pt0 sb,pt0 cb])/\Box w' m2 [.map (some b2)] 83/\Hs w' b2 E2/\Good E2 L/\SetAt w' sb v7 D /\
  CdtAt w' cb mb b db v s s E D/\CInvW s s E L D/\(∀ q,someC L q↔PutPt s P q)/\L.length<=2+2 * P.length/\D.length<=6000/\(m0=0->P.length=0->Sq0 s L D)/\Below w w w'/\w.heap.size<=b/\w.heap.size<=db /\
  w.heap.size<=n0/\(cb < n0/\mb < n0/\b < n0/\db < n0/\∀ g,v.ownBlock=some g->g < n0)/\n0<=m2/\n0<=b2/\n0<=sb/\(∀ g,v7.ownBlock=some g->n0<=g)/\m2 < sb/\¬ Foot sb v7 m2
theorem built9_any (s:Int) (hs:0 < s) (hs2:s<=60) (a0 a1:Option Addr) (n m0 c0 c1:Nat) (P:List Int) (hP:Hi (P.length=n)) (hn:n<=30) (Q:List Pt) (hQ:Hi (Q.length=m0)) (hm0:m0<=30) (w:World) (h0:RowAt cI 1 w a0 P) (hq0:RowAt cP 2 w a1 Q):Calls prog 6 #[s,.slice a0 n c0,.slice a1 m0 c1] w (Built9Post s P m0 w):=by
 refine (ku s hs hs2 a0 a1 n m0 c0 c1 P hP hn Q hQ hm0 w h0 hq0).mono ?_;rintro e w' ⟨n0,m2,b2,sb,v7,cb,mb,b,db,v,E2,E,L,D,h1,h2,h3,h4,h5,h6,h7,h8,h9,h10,_,h11⟩;exact ⟨n0,m2,b2,sb,v7,cb,mb,b,db,v,E2,E,L,D,h1,h2,h3,h4,h5,h6,h7,h8,h9,h10,h11⟩
theorem gcut_out (T:Tri3) (p:Pt) (h0:hasP T p=false) (w:World):Calls prog 14 #[T,p] w (Rt w (.slice none 0 0)):=by
 have cH:=Y0 T p;rw [K8,h0] at cH;clear h0
 go_enter func14,ntmps14
 go_wp2_with fail;refine zI λW1 hW=>?_;have hw:Below w w W1:=by rw [hW];go_grown
 clear hW;refine (cH _).mono ?_;rintro e w2 ⟨rfl,hb⟩;replace hw:=upB hw hb;clear hb cH;go_wp2
 go_ret
 exact ⟨rfl,hw⟩
theorem gcut_at (T:Tri3) (p:Pt) (h0:hasP T p) (h1:isCb p T) (w:World):Calls prog 14 #[T,p] w (Rt w (.slice none 0 0)):=by
 have cH:=Y0 T p;rw [K8,h0] at cH;have cC:=uW T p;rw [h1] at cC;clear h0 h1
 go_enter func14,ntmps14
 go_wp2_with fail;refine qE2 λW1 Bt Ba hw=>?_;refine (cH _).mono ?_;rintro e w2 ⟨rfl,hb⟩;obtain ⟨Bt,Ba,hw,-⟩:=qX2 Bt Ba hw hb;clear hb cH;have Gj:=J2 Bt.f Ba.f;go_wp2_with fail;refine (cC _).mono ?_;rintro e w3 ⟨rfl,hb⟩;clear Gj;replace hw:=upB hw hb;clear hb cC;go_wp2
 go_ret
 exact ⟨rfl,hw⟩
theorem XQ (T:Tri3) (p:Pt) (w:World):Calls prog 14 #[T,p] w λe w'=>∃ a cap,e=.returned (.slice a (cutS p T).length cap)/\RowAt cT 6 w' a (cutS p T)/\Below w w w':=by
 have none (h:cutOk T p=false):cutS p T=[]:=by unfold cutS cutR;rw [J0 (by rw [h];decide)];exact (zU []).eq_nil
 cases h0:hasP T p with
 | false=>
  rw [none (by unfold cutOk;rw [h0];rfl)];refine (gcut_out T p h0 w).mono ?_;rintro e w' ⟨rfl,hb⟩;exact ⟨_,_,rfl,λj x hx=>by simp at hx,hb⟩
 | true=>
  cases h1:isCb p T with
  | true=>
   have hc:=km.1 h1;rw [none (by
    unfold cutOk isCnr at *;have k:∀ q:Pt,peqI q.x q.y q.x q.y=true:=λq=>by rw [zq];simp
    rcases hc with rfl | rfl | rfl <;> rw [k] <;> simp)]
   refine (gcut_at T p h0 h1 w).mono ?_;rintro e w' ⟨rfl,hb⟩;exact ⟨_,_,rfl,λj x hx=>by simp at hx,hb⟩
  | false=>
   have hv:valT T=true/\vld p=true:=by
    unfold hasP at h0;simp only [JB] at h0;exact ⟨h0.1,h0.2.1⟩
   rw [Xa h0 h1];refine (XP T p h0 h1 (Xb hv.1 hv.2 ((ZL hv.1 hv.2).1 h0)) w).mono ?_;rintro e w' ⟨g,cap,rfl,hr,_,hb⟩;exact ⟨_,_,rfl,hr,hb⟩
theorem k9_sq:∀ x∈[sqW 2 2 0,sqW 2 2 1,sqW 2 2 2,sqW 2 2 3],x.K=2/\onD ⟨1,1⟩ x=false/\(onD ⟨1,0⟩ x=true->x.A=⟨0,0⟩/\x.B=⟨2,0⟩):=by decide
theorem k9_on:onD ⟨1,0⟩ (sqW 2 2 0)=true:=by decide
theorem k9_mid {L:List Tri3} {D:List Wl} (h:Sq0 2 L D):D.find? (onD ⟨1,1⟩)=none:=QH.2 λx hx=>by rw [(k9_sq x (h.2.mem_iff.1 hx)).2.1];decide
theorem k9_rim {L:List Tri3} {D D':List Wl} (h:Sq0 2 L D) (hA:AddD D ⟨1,0⟩ D'):(D.find? (onD ⟨1,0⟩)).isSome=true/\kindW D' ⟨0,0⟩ ⟨1,0⟩=2:=by
 have h1:(D.find? (onD ⟨1,0⟩)).isSome=true:=List.find?_isSome.2 ⟨_,h.2.mem_iff.2 (JT ..),k9_on⟩;refine ⟨h1,?_⟩;have hk:∀ x∈D',x.K=2:=λx hx=>by
  obtain ⟨y,hy,e⟩:=Xv hA x hx;rw [e];exact (k9_sq y (h.2.mem_iff.1 hy)).1
 rcases hA with ⟨n1,_⟩ | ⟨X,r,D1,k1,k2,hX,_,_,_,rfl⟩
 ·rw [n1] at h1;cases h1
 ·obtain ⟨eA,eB⟩:=(k9_sq X (h.2.mem_iff.1 (Js hX))).2.2 (V7 hX);have hm:(⟨X.A,⟨1,0⟩,X.K⟩:Wl)∈insW (insW D1 ⟨X.A,⟨1,0⟩,X.K⟩ k1) ⟨⟨1,0⟩,X.B,X.K⟩ k2:=(yc _ _ _).mem_iff.2 (.tail _ ((yc _ _ _).mem_iff.2 (.head _)));unfold kindW;cases hf:(insW (insW D1 ⟨X.A,⟨1,0⟩,X.K⟩ k1) ⟨⟨1,0⟩,X.B,X.K⟩ k2).find? (isW ⟨0,0⟩ ⟨1,0⟩) with
  | none=>
   have:=QH.1 hf _ hm;exact absurd (show isW ⟨0,0⟩ ⟨1,0⟩ (⟨X.A,⟨1,0⟩,X.K⟩:Wl)=true from xK.2 ⟨eA,rfl⟩) this
  | some x=>exact hk x (Js hf)
theorem k9_put {L:List Tri3} (c:∀ q,someC L q↔PutPt 2 [] q):inBox 2 2 ⟨1,1⟩/\¬ someC L ⟨1,1⟩/\inBox 2 2 ⟨1,0⟩/\¬ someC L ⟨1,0⟩/\¬ inBox 2 2 ⟨3,0⟩/\¬ atRim 2 2 ⟨1,1⟩/\atRim 2 2 ⟨1,0⟩:=by
 rw [c,c];unfold PutPt inBox atRim;refine ⟨by decide,?_,by decide,?_,by decide,by decide,by decide⟩
 ·rintro ((h | h | h | h) | ⟨x,hx,_⟩)
  ·revert h;decide
  ·revert h;decide
  ·revert h;decide
  ·revert h;decide
  ·cases hx
 ·rintro ((h | h | h | h) | ⟨x,hx,_⟩)
  ·revert h;decide
  ·revert h;decide
  ·revert h;decide
  ·revert h;decide
  ·cases hx
theorem Ku:cutS ⟨1,1⟩ ⟨⟨0,0⟩,⟨2,0⟩,⟨2,2⟩⟩=srt cmpT (cutP ⟨1,1⟩ ⟨⟨0,0⟩,⟨2,0⟩,⟨2,2⟩⟩)/\(cutP ⟨1,1⟩ ⟨⟨0,0⟩,⟨2,0⟩,⟨2,2⟩⟩).length=2/\cutR ⟨⟨0,0⟩,⟨2,0⟩,⟨2,2⟩⟩ ⟨0,0⟩=[]:=by
 refine ⟨Xa (by decide) (by decide),by decide,by decide⟩
theorem k9_len {L:List Tri3} (h:L.length=5) {E:Es} (g:Good E L):E.length=3 * 5:=by rw [g.len,h]
theorem gpoint_nil (v:Value) (x y:Int) (w:World):Calls prog 7 #[.pointer none,v,.agg #[x,y]] w (Rt w (.int .i64 16)):=by
 go_enter func7,ntmps7
 go_wp2_with fail
 go_ret
 exact ⟨rfl,by go_grown⟩
theorem k9_all {L L1 L2 L3 L4:List Tri3} {D D1 D2 D3 D4:List Wl} {r1 r2 r3 r4:Int} (h0:Sq0 2 L D) (c:∀ q,someC L q↔PutPt 2 [] q) (t1:GTold 2 L D ⟨1,1⟩ r1 L1 D1) (t2:GTold 2 L1 D1 ⟨1,1⟩ r2 L2 D2) (t3:GTold 2 L2 D2 ⟨3,0⟩ r3 L3 D3) (t4:GTold 2 L3 D3 ⟨1,0⟩ r4 L4 D4):r1=0/\r2=5/\r3=1/\r4=0/\L4.length=5/\D4.length=5/\kindW D4 ⟨0,0⟩ ⟨1,0⟩=2:=by
 obtain ⟨q1,q2,q3,q4,q5,q6,q7⟩:=k9_put c;have e1:r1=0:=by
  rcases t1.1 with ⟨_,h⟩ | ⟨_,_,h⟩ | ⟨h,_⟩
  ·exact absurd q1 h
  ·exact absurd h q2
  ·exact h
 obtain ⟨a1,b1,d1⟩:=t1.2.2.2.2.1 e1;have m1:D1=D:=by
  rcases a1 with ⟨_,h⟩ | ⟨X,_,_,_,_,h,_⟩
  ·exact h
  ·rw [k9_mid h0] at h;cases h
 have l1:L1.length=4:=by rcases b1 with ⟨h,_⟩ | ⟨_,h⟩;rw [h,h0.1];exact absurd h q6
 have s1:someC L1 ⟨1,1⟩:=(t1.2.1 _).2 (.inr ⟨rfl,q1⟩);have e2:r2=5:=by
  rcases t2.1 with ⟨_,h⟩ | ⟨h,_⟩ | ⟨_,_,h⟩
  ·exact absurd q1 h
  ·exact h
  ·exact absurd s1 h
 obtain ⟨x2,y2⟩:=t2.2.2.2.2.2 (by omega);have e3:r3=1:=by
  rcases t3.1 with ⟨h,_⟩ | ⟨_,h,_⟩ | ⟨_,h,_⟩
  ·exact h
  ·exact absurd h q5
  ·exact absurd h q5
 obtain ⟨x3,y3⟩:=t3.2.2.2.2.2 (by omega);subst m1 x2 y2 x3 y3;have n4:¬ someC L3 ⟨1,0⟩:=λh=>by
  rcases (t1.2.1 _).1 h with k | ⟨k,_⟩
  ·exact q4 k
  ·revert k;decide
 have e4:r4=0:=by
  rcases t4.1 with ⟨_,h⟩ | ⟨_,_,h⟩ | ⟨h,_⟩
  ·exact absurd q3 h
  ·exact absurd h n4
  ·exact h
 obtain ⟨a4,b4,d4⟩:=t4.2.2.2.2.1 e4;obtain ⟨k1,k2⟩:=k9_rim h0 a4;have ld:D3.length=4:=by rw [h0.2.length_eq];rfl
 refine ⟨e1,e2,e3,e4,?_,?_,k2⟩
 ·rcases b4 with ⟨_,h⟩ | ⟨h,_⟩
  ·exact absurd q7 h
  ·omega
 ·rw [d4,k1,ld];rfl
theorem awake9_of (cb:∀ W,Calls prog 6 #[.int .i64 2,.slice none 0 0,.slice none 0 0] W (Built9Post 2 [] 0 W)) (w:World):Calls prog 5 #[] w (Rt w (.bool true)):=by
 go_enter func5,ntmps5
 go_wp2_with fail;refine (cb _).mono ?_;rintro e w1 ⟨n0,m,b,sb,v,_,_,_,_,_,E0,E1,L,D,rfl,B,H,G,S,_,hI,hC,hL,hD,hS,hw,_,_,hn,_,hm1,hb1,hs1,ho1,_,hF⟩;have HQ0:=hdd (show Sq0 2 L D/\∀ q,someC L q↔PutPt 2 [] q from ⟨hS rfl rfl,hC⟩);have S1:GSt 2 w1 m b sb v E0 L D:=⟨B,H,S,⟨G,hI.fix,hI.kinds,hI.wal,hI.rim⟩,hF⟩;have HN:=hdd (show w.heap.size<=m/\w.heap.size<=b/\∀ k,Foot sb v k->w.heap.size<=k from ⟨by omega,by omega,λk h=>by rcases h with h | h;omega;have:=ho1 k h;omega⟩);have HL:=hdd (show L.length<=2/\D.length<=6000 from ⟨hL,hD⟩);clear cb B H G S hI hC hL hD hS hn hm1 hb1 hs1 ho1 hF;go_wp2_with fail;refine zI λW1 hW=>?_;obtain ⟨bp,hbp⟩:∃ b,w1.heap.size=b:=⟨_,rfl⟩;rw [hbp];have Bp:Box W1 bp [.int .i64 1,.int .i64 1] 34:=by rw [hW];exact (Box.new hbp.symm).old _
 have Bt:Box W1 (bp+1) [(),(),.int .i64 2,(),.int .i64 2,.int .i64 2] 45:=by rw [hW];exact Box.new (by simp [hbp])
 have pA:=S1.apt (k:=bp) (by omega);have tA:=S1.apt (k:=bp+1) (by omega);have hb:Below w1 w1 W1:=by rw [hW];go_grown
 replace S1:=S1.ee hb;replace hw:=upB hw hb;clear hW hb hbp;have cC:=XQ ⟨⟨0,0⟩,⟨2,0⟩,⟨2,2⟩⟩ ⟨1,1⟩;rw [show (cutS ⟨1,1⟩ ⟨⟨0,0⟩,⟨2,0⟩,⟨2,2⟩⟩).length=2 by rw [Ku.1,(zU _).length_eq,Ku.2.1]] at cC;refine (cC _).mono ?_;rintro e w2 ⟨ac,cc,rfl,_,hb⟩;replace S1:=S1.ee hb;obtain ⟨Bp,Bt,hw,-⟩:=qX2 Bp Bt hw hb;clear hb cC;have FP1:=Bp.f;go_wp2_with fail;refine (gstep 2 (by omega) (by omega) S1 (by have:=HL.o;omega) (by have:=HL.o;omega) ⟨1,1⟩).mono ?_;rintro e w3 ⟨r1,Q1,L1,D1,v1,rfl,S2,T1,F,f⟩;clear FP1;have hz:=hw.size;replace hw:=hw.trans (F.below (λk h=>by rcases h with rfl | h;exact HN.o.2.1;exact HN.o.2.2 k h) hw.size);have hp0:=Bp.lt;have ht0:=Bt.lt;replace Bp:=pA.box Bp F;replace Bt:=tA.box Bt F;replace pA:=pA.step f hp0;replace tA:=tA.step f ht0;replace HN:=hdd (show w.heap.size<=m/\w.heap.size<=b/\∀ k,Foot sb v1 k->w.heap.size<=k from ⟨HN.o.1,HN.o.2.1,λk h=>by
  rcases h with h | h
  ·exact HN.o.2.2 k (.inl h)
  ·rcases f k h with h | h
   ·exact HN.o.2.2 k (.inr h)
   ·omega⟩)
 clear F f hp0 ht0 hz;have FP2:=Bp.f;go_wp2_with fail;refine (gstep 2 (by omega) (by omega) S2 (by have:=HL.o;have:=T1.2.2.1;omega) (by have:=HL.o;have:=T1.2.2.2.1;omega) ⟨1,1⟩).mono ?_;rintro e w4 ⟨r2,Q2,L2,D2,v2,rfl,S3,T2,F,f⟩;clear FP2;have hz:=hw.size;replace hw:=hw.trans (F.below (λk h=>by rcases h with rfl | h;exact HN.o.2.1;exact HN.o.2.2 k h) hw.size);have hp0:=Bp.lt;have ht0:=Bt.lt;replace Bp:=pA.box Bp F;replace Bt:=tA.box Bt F;replace pA:=pA.step f hp0;replace tA:=tA.step f ht0;replace HN:=hdd (show w.heap.size<=m/\w.heap.size<=b/\∀ k,Foot sb v2 k->w.heap.size<=k from ⟨HN.o.1,HN.o.2.1,λk h=>by
  rcases h with h | h
  ·exact HN.o.2.2 k (.inl h)
  ·rcases f k h with h | h
   ·exact HN.o.2.2 k (.inr h)
   ·omega⟩)
 clear F f hp0 ht0 hz;have FP3:=Bp.f;go_wp2_with fail;refine (gstep 2 (by omega) (by omega) S3 (by have:=HL.o;have:=T1.2.2.1;have:=T2.2.2.1;omega) (by have:=HL.o;have:=T1.2.2.2.1;have:=T2.2.2.2.1;omega) ⟨3,0⟩).mono ?_;rintro e w5 ⟨r3,Q3,L3,D3,v3,rfl,S4,T3,F,f⟩;clear FP3;have hz:=hw.size;replace hw:=hw.trans (F.below (λk h=>by rcases h with rfl | h;exact HN.o.2.1;exact HN.o.2.2 k h) hw.size);have hp0:=Bp.lt;have ht0:=Bt.lt;replace Bp:=pA.box Bp F;replace Bt:=tA.box Bt F;replace pA:=pA.step f hp0;replace tA:=tA.step f ht0;replace HN:=hdd (show w.heap.size<=m/\w.heap.size<=b/\∀ k,Foot sb v3 k->w.heap.size<=k from ⟨HN.o.1,HN.o.2.1,λk h=>by
  rcases h with h | h
  ·exact HN.o.2.2 k (.inl h)
  ·rcases f k h with h | h
   ·exact HN.o.2.2 k (.inr h)
   ·omega⟩)
 clear F f hp0 ht0 hz;have FP4:=Bp.f;go_wp2_with fail;refine (gstep 2 (by omega) (by omega) S4 (by have:=HL.o;have:=T1.2.2.1;have:=T2.2.2.1;have:=T3.2.2.1;omega) (by have:=HL.o;have:=T1.2.2.2.1;have:=T2.2.2.2.1;have:=T3.2.2.2.1;omega) ⟨1,0⟩).mono ?_;rintro e w6 ⟨r4,Q4,L4,D4,v4,rfl,S5,T4,F,f⟩;clear FP4;have hz:=hw.size;replace hw:=hw.trans (F.below (λk h=>by rcases h with rfl | h;exact HN.o.2.1;exact HN.o.2.2 k h) hw.size);have hp0:=Bp.lt;have ht0:=Bt.lt;replace Bp:=pA.box Bp F;replace Bt:=tA.box Bt F;replace pA:=pA.step f hp0;replace tA:=tA.step f ht0;replace HN:=hdd (show w.heap.size<=m/\w.heap.size<=b/\∀ k,Foot sb v4 k->w.heap.size<=k from ⟨HN.o.1,HN.o.2.1,λk h=>by
  rcases h with h | h
  ·exact HN.o.2.2 k (.inl h)
  ·rcases f k h with h | h
   ·exact HN.o.2.2 k (.inr h)
   ·omega⟩)
 clear F f hp0 ht0 hz;obtain ⟨x1,x2,x3,x4,x5,x6,x7⟩:=k9_all HQ0.o.1 HQ0.o.2 T1 T2 T3 T4;subst x1 x2 x3 x4;have cL:=λW B H=>mlen_any m b Q4 5 (hdd (k9_len x5 S5.inv.good)) (by omega) W B H;obtain ⟨aw,cw,hvw,R5⟩:=S5.set.rd;have cW:=λW R=>len_any sb aw cw D4.length D4 W R;rw [x6] at cW;have cK:=λW R=>qN sb aw cw D4.length D4 ⟨0,0⟩ ⟨1,0⟩ W R;rw [show lo2 ⟨0,0⟩ ⟨1,0⟩=⟨0,0⟩ by decide,show hi2 ⟨0,0⟩ ⟨1,0⟩=⟨1,0⟩ by decide,x7] at cK;rw [x6] at cK R5;clear hvw;have FP:=Bp.f;have FT:=Bt.f;go_wp2_with fail;refine (cL _ S5.box S5.map).mono ?_;rintro e w7 ⟨rfl,hb⟩;replace Bp:=Bp.ee hb;replace Bt:=Bt.ee hb;replace R5:=R5.ee hb;replace hw:=upB hw hb;clear hb FP FT;have FP:=Bp.f;have FT:=Bt.f;go_wp2_with fail;refine (cW _ R5).mono ?_;rintro e w8 ⟨rfl,hb⟩;replace Bp:=Bp.ee hb;replace Bt:=Bt.ee hb;replace R5:=R5.ee hb;replace hw:=upB hw hb;clear hb FP FT;have FP:=Bp.f;have FT:=Bt.f;go_wp2_with fail;refine (cK _ R5).mono ?_;rintro e w9 ⟨rfl,hb⟩;replace Bp:=Bp.ee hb;replace Bt:=Bt.ee hb;replace R5:=R5.ee hb;replace hw:=upB hw hb;clear hb FP FT;have FP:=Bp.f;have FT:=Bt.f;go_wp2_with fail;refine (gpoint_nil _ _ _ _).mono ?_;rintro e w10 ⟨rfl,hb⟩;replace Bp:=Bp.ee hb;replace Bt:=Bt.ee hb;replace R5:=R5.ee hb;replace hw:=upB hw hb;clear hb FP FT;have FP:=Bp.f;have FT:=Bt.f;go_wp2_with fail;have cE:=XQ ⟨⟨0,0⟩,⟨2,0⟩,⟨2,2⟩⟩ ⟨0,0⟩;rw [show (cutS ⟨0,0⟩ ⟨⟨0,0⟩,⟨2,0⟩,⟨2,2⟩⟩).length=0 by unfold cutS;rw [(zU _).length_eq,Ku.2.2];rfl] at cE;refine (cE _).mono ?_;rintro e w11 ⟨ac2,cc2,rfl,_,hb⟩;replace hw:=upB hw hb;go_wp2
 go_ret
 exact ⟨rfl,hw⟩
theorem jq (w:World):Calls prog 5 #[] w (Rt w (.bool true)):=
 awake9_of (λW=>built9_any 2 (by omega) (by omega) none none 0 0 0 0 [] (hdd rfl) (by omega) [] (hdd rfl) (by omega) W (λj x hx=>by simp at hx) (λj x hx=>by simp at hx)) w
end
end Go.Proofs.YthhcehmmglmlfaaGreat
