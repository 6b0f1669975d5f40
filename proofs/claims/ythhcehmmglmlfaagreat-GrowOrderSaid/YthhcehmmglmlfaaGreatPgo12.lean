import Derived.Test.YthhcehmmglmlfaaGreatPgo11
set_option maxRecDepth 100000
set_option maxHeartbeats 8000000
set_option linter.all false
namespace Go.Proofs.YthhcehmmglmlfaaGreat
open _root_.Go.Proofs.Tryz
section
open Go.RowKit Go.Sort
attribute [local go_sem] rOper rAt rUpon cell_set sg_i64 sg_u64 alloc_cell alloc_frozen
attribute [local go_sem 10000] pt_eql pt_neq tri_eql
attribute [local irreducible] rWalk
theorem ZO (s:Int) (a0 a1:Option Addr) (n m c0 c1:Nat) (w:World):Calls prog 4 #[s,.slice a0 n c0,.slice a1 m c1] w λe w'=>e=.returned (.bool (decide (1<=s) && (decide (s<=40) && (decide (n<=25) && decide (m<=12)))))/\Below w w w':=by
 have e1:decide (1<=s)=decide ((1:Int)<=s):=rfl;have e3:decide (n<=25)=decide ((n:Int)<=25):=by simp;omega
 have e4:decide (m<=12)=decide ((m:Int)<=12):=by simp;omega
 rw [e3,e4];clear e1 e3 e4;cases h1:decide ((1:Int)<=s) <;> cases h2:decide (s<=40) <;> cases h3:decide ((n:Int)<=25) <;> cases h4:decide ((m:Int)<=12)
 all_goals
  go_enter func4,ntmps4
  go_wp2
  go_ret
  exact ⟨rfl,by go_grown⟩
theorem tris_new {E:Es} {L:List Tri3} (g:Good E L):(srt cmpT (heads (λ_=>true) E)).Perm L/\(∀ T∈srt cmpT (heads (λ_=>true) E),okT T)/\(putRun [] (srt cmpT (heads (λ_=>true) E))).1=(srt cmpT (heads (λ_=>true) E)).length/\Good (putRun [] (srt cmpT (heads (λ_=>true) E))).2 (srt cmpT (heads (λ_=>true) E)):=by
 have hp0:(srt cmpT (heads (λ_=>true) E)).Perm L:=(zU _).trans g.heads;generalize srt cmpT (heads (λ_=>true) E)=I at *
 have hv:∀ T∈I,valT T=true:=λT h=>g.val T (hp0.mem_iff.1 h);have hgo:=Good.puts (I:=I) (E:=[]) (M:=[]) ⟨by simp,by simp [KeysNodup],by simp⟩ hv (by
  rw [Ji];exact ((hp0.flatMap_right ways).nodup_iff).2 g.once)
 rw [Ji] at hgo;exact ⟨hp0,λT h=>ye (hv T h),hgo.1,hgo.2⟩
theorem ve {s:Int} {P:List Int} {Q:List Pt} {m0:Nat} {w w':World} {e:Ending} (h:Built9D s P Q m0 w e w'):∃ m b sb v cb E L D,e=.returned (.tuple #[pt0 m,pt0 sb,pt0 cb])/\GSt s w' m b sb v E L D/\(∀ q,someC L q↔PutPt s P q)/\L.length<=2+2 * P.length/\D.length<=6000/\RunW s P Q m0 D/\(∀ k,Own m b sb v k->w.heap.size<=k)/\Below w w w':=by
 obtain ⟨n0,m2,b2,sb,v7,cb,mb,b,db,v,E2,E,L,D,h0,h1,h2,h3,h4,h5,h6,h7,h8,h9,hR,_,hb,_,_,k1,_,k2,k3,k4,k5,_,k6⟩:=h;refine ⟨m2,b2,sb,v7,cb,E2,L,D,h0,⟨h1,h2,h4,⟨h3,h6.fix,h6.kinds,h6.wal,h6.rim⟩,k6⟩,h7,h8,h9,hR,?_,hb⟩;intro k hk;rcases hk with h | h | h | h
 ·omega
 ·omega
 ·omega
 ·have:=k5 k h;omega
def Bnd (i a b c d e f:Nat):Prop:=a<=i/\b<=i/\c<=52+2 * i/\d<=52+2 * i/\e<=6000+2 * i/\f<=6000+2 * i
def Bnd1 (i a c e:Nat):Prop:=a<=i/\c<=52+2 * i/\e<=6000+2 * i
theorem Bnd.ok {i m a b c d e f:Nat} (h:Bnd i a b c d e f) (hi:i < m) (hm:m<=15):c<=92/\e<=20000/\d<=92/\f<=20000:=by unfold Bnd at h;omega
theorem Bnd.one {i a b c d e f a2 c2 e2:Nat} (h:Bnd i a b c d e f) (h1:a2<=a+1) (h2:c2<=c+2) (h3:e2<=e+2):Bnd1 (i+1) a2 c2 e2:=by unfold Bnd at h;unfold Bnd1;omega
theorem Bnd.swap {i a b c d e f:Nat} (h:Bnd i a b c d e f):Bnd i b a d c f e:=by unfold Bnd at *;omega
theorem Bnd1.both {i a b c d e f:Nat} (h1:Bnd1 i a c e) (h2:Bnd1 i b d f):Bnd i a b c d e f:=⟨h1.1,h2.1,h1.2.1,h2.2.1,h1.2.2,h2.2.2⟩
theorem go_n1 {i m a b c d e f:Nat} (h:Bnd i a b c d e f) (hi:i < m) (hm:m<=15):wrap64 ((a:Int) - (b:Int)+1)=((a+1:Nat):Int) - (b:Int):=by unfold Bnd at h;rw [w64];omega
theorem go_n2 {i m a b b2 c d e f a2 c2 e2:Nat} (h:Bnd i a b c d e f) (h1:Bnd1 (i+1) a2 c2 e2) (hi:i < m) (hm:m<=15) (hb:b2=b+1):wrap64 ((a2:Int) - (b:Int) - 1)=(a2:Int) - (b2:Int):=by unfold Bnd at h;unfold Bnd1 at h1;rw [w64];omega
theorem go_odd {i m n t kk:Nat} (hi:i < m) (hm:m<=15) (hn:n=m) (hk:kk=kap false t n i):wrap64 ((m:Int) - 1)=((m - 1:Nat):Int)/\wrap64 (((m - 1:Nat):Int) - (i:Int))=(kk:Int):=by
 unfold kap at hk;rw [J0 (by simp)] at hk;rw [w64,w64];omega
theorem go_ev {i m n t kk:Nat} {turn:Int} (hi:i < m) (hm:m<=15) (hn:n=m) (ht:t=(turn % (m:Int)).toNat) (hk:kk=kap true t n i):(0:Int) < m/\(m:Int)<=4294967296/\turn % (m:Int)=(t:Int)/\wrap64 ((i:Int)+(t:Int))=((i+t:Nat):Int)/\((i+t:Nat):Int) % (m:Int)=(kk:Int):=by
 have h1:=Vd turn (b:=(m:Int)) (by omega);have h2:=VC turn (b:=(m:Int)) (by omega);unfold kap at hk;rw [JH rfl,hn] at hk;refine ⟨by omega,by omega,by omega,by rw [w64];omega,by rw [hk];omega⟩
theorem go_no (s:Int) (a0 a2 a1:Option Addr) (n q m c0 c2 c1:Nat) (turn:Int) (hf:(decide (1<=s) && (decide (s<=40) && (decide (n<=25) && decide (q<=12))))=false) (w:World):Calls prog 3 #[s,.slice a0 n c0,.slice a2 q c2,.slice a1 m c1,turn] w (Rt w (.bool true)):=by
 have cf:=λW=>ZO s a0 a2 n q c0 c2 W;rw [hf] at cf;clear hf
 go_enter func3,ntmps3
 go_wp2_with fail;refine (cf _).mono ?_;rintro e w1 ⟨rfl,hb⟩;go_wp2_with fail;refine (jq _).mono ?_;rintro e w2 ⟨rfl,hb2⟩;have hw:=(upB hb hb2);go_wp2
 go_ret
 exact ⟨rfl,hw⟩
theorem go_many (s:Int) (a0 a2 a1:Option Addr) (n q m c0 c2 c1:Nat) (turn:Int) (hf:(decide (1<=s) && (decide (s<=40) && (decide (n<=25) && decide (q<=12))))=true) (hm:decide ((15:Int) < (m:Int))=true) (w:World):Calls prog 3 #[s,.slice a0 n c0,.slice a2 q c2,.slice a1 m c1,turn] w (Rt w (.bool true)):=by
 have cf:=λW=>ZO s a0 a2 n q c0 c2 W;rw [hf] at cf;clear hf
 go_enter func3,ntmps3
 go_wp2_with fail;refine (cf _).mono ?_;rintro e w1 ⟨rfl,hb⟩;go_wp2_with fail;refine (jq _).mono ?_;rintro e w2 ⟨rfl,hb2⟩;have hw:=(upB hb hb2);go_wp2
 go_ret
 exact ⟨rfl,hw⟩
theorem go_yes (s:Int) (hs:0 < s) (hs2:s<=40) (a0:Option Addr) (n c0:Nat) (hn:n<=25) (P:List Int) (hP:Hi (P.length=n)) (a2:Option Addr) (q c2:Nat) (hq:q<=12) (Q:List Pt) (hQ:Hi (Q.length=q)) (a1:Option Addr) (m c1:Nat) (hm:m<=15) (X:List Int) (hX:Hi (X.length=m)) (turn:Int) (ev:Bool) (ht:(turn.tmod 2 == 0)=ev) (w:World) (h0:RowAt cI 1 w a0 P) (hq0:RowAt cP 2 w a2 Q) (h1:RowAt cI 1 w a1 X):Calls prog 3 #[s,.slice a0 n c0,.slice a2 q c2,.slice a1 m c1,turn] w (Rt w (.bool true)):=by
 have cf:=λW=>ZO s a0 a2 n q c0 c2 W;rw [show (decide (1<=s) && (decide (s<=40) && (decide (n<=25) && decide (q<=12))))=true by simp;omega] at cf;have csp:=λx=>uB s x hs (show s<=60 by omega);have hm2:decide ((15:Int) < (m:Int))=false:=by simp;omega
 have HS:=hdd (show 0 < s/\s<=40 from ⟨hs,hs2⟩);have HN:=hdd hn;have HQQ:=hdd hq;have HM:=hdd hm;clear hs hs2 hn hq hm
 go_enter func3,ntmps3
 go_wp2_with fail;refine (cf _).mono ?_;rintro e w1 ⟨rfl,hw⟩;clear cf;go_wp2_with fail;refine (ku s HS.o.1 (by have:=HS.o.2;omega) a0 a2 n q c0 c2 P hP (by have:=HN.o;omega) Q hQ (by have:=HQQ.o;omega) w1 (h0.ee hw) (hq0.ee hw)).mono ?_;rintro e w2 hpost;obtain ⟨ma,ba,sa,va,ca,Ea,La,D0,rfl,SA,hCA,hLA,hDA,hRA,hOA,hb⟩:=ve hpost;obtain ⟨n1,hn1⟩:∃ z,w1.heap.size=z:=⟨_,rfl⟩;have HN1:=hdd (show w.heap.size<=n1 by rw [<-hn1];exact hw.size);rw [hn1] at hOA;replace hw:=upB hw hb;have h12:=hb.size;clear hb hpost;go_wp2_with fail;refine (ku s HS.o.1 (by have:=HS.o.2;omega) a0 a2 n q c0 c2 P hP (by have:=HN.o;omega) Q hQ (by have:=HQQ.o;omega) w2 (h0.ee hw) (hq0.ee hw)).mono ?_;rintro e w3 hpost;obtain ⟨mb,bb,sb2,vb,cb,Eb,Lb,Db,rfl,SB,hCB,hLB,hDB,hRB,hOB,hb⟩:=ve hpost;obtain rfl:=Yj q hRA hRB;have U:Pair s n1 w3 ma ba sa va Ea La D0 mb bb sb2 vb Eb Lb D0:=⟨SA.ee hb,SB,λk k1 k2=>by
  have:=SA.lt k k1;have:=hOB k k2;omega,hOA,λk k2=>by have:=hOB k k2;omega⟩
 replace hw:=upB hw hb;obtain ⟨C,hC⟩:∃ C:Pt->Prop,C=PutPt s P:=⟨_,rfl⟩;rw [<-hC] at hCA hCB;have HG0:=hdd SA.inv.wal.good;have HA0:=hdd (show Gone s C D0 (ZA s X 0) [] La D0 from by unfold ZA;rw [Qd,Qw];exact Gone.start hCA);obtain ⟨tt,htt⟩:∃ tt,tt=(turn % (m:Int)).toNat:=⟨_,rfl⟩;have HB0:=hdd (show Gone s C D0 (ZB s X ev tt 0) [] Lb D0 from by unfold ZB;rw [List.range_zero,Qw];exact Gone.start hCB);have HL0:=hdd (show Bnd 0 ([]:List Pt).length ([]:List Pt).length La.length Lb.length D0.length D0.length by
  have:=HN.o;have:=hP.o;unfold Bnd;simp;omega)
 replace htt:=hdd htt;clear hb hpost hRA hRB hCA hCB hLA hLB hDA hDB hOA hOB SA SB h12 hn1 hC h0 hq0;go_wp2_with fail
 go_loopw [17,18] (λv17 v18 wr=>∃ (i:Nat) (la lb:List Pt) (va vb:Value) (Ea Eb:Es) (La Lb:List Tri3) (Da Db:List Wl),v18=.int .i64 (i:Int)/\v17=.int .i64 ((la.length:Int) - (lb.length:Int))/\i<=m/\Pair s n1 wr ma ba sa va Ea La Da mb bb sb2 vb Eb Lb Db/\Hi (Gone s C D0 (ZA s X i) la La Da)/\Hi (Gone s C D0 (ZB s X ev tt i) lb Lb Db)/\Hi (Bnd i la.length lb.length La.length Lb.length Da.length Db.length)/\Below w w wr) (λ_ v18 _=>m - (intOf v18).toNat)
 case atStart=>exact ⟨0,[],[],va,vb,Ea,Eb,La,Lb,D0,D0,rfl,by simp,Jl _,U,HA0,HB0,HL0,hw⟩
 case round=>
  clear U HA0 HB0 HL0 hw;obtain ⟨i,la,lb,va,vb,Ea,Eb,La,Lb,Da,Db,rfl,rfl,hi,U,HA,HB,HL,hw⟩:=hrel;by_cases hlt:i < m
  case neg=>
   obtain rfl:m=i:=by omega
   have HE:=gone_same HS.o.1 (by have:=HS.o.2;omega) HG0.o HA.o HB.o U.A.inv U.B.inv (by
    have hx:=hX.o;subst hx;refine Z_same ?_;rcases VS X.length with h | h
    ·exact .inr h
    ·refine .inl ?_;rw [htt.o];have h1:=Vd turn (b:=(X.length:Int)) (by omega);have h2:=VC turn (b:=(X.length:Int)) (by omega);omega)
   obtain ⟨e1,e2,e3⟩:=HE;subst e2;have hn0:((la.length:Int) - (lb.length:Int) == 0)=true:=by rw [e1];simp
   have hEa:Ea.length<=1000000:=by rw [U.A.inv.good.len];have hB:=HL.o;unfold Bnd at hB;have:=HM.o;omega
   have hEb:Eb.length<=1000000:=by rw [U.B.inv.good.len];have hB:=HL.o;unfold Bnd at hB;have:=HM.o;omega
   have hDl:Da.length<=1000000:=by have hB:=HL.o;unfold Bnd at hB;have:=HM.o;omega
   have cta:=λW B H=>Zs ma ba Ea hEa W B H;have ctb:=λW B H=>Zs mb bb Eb hEb W B H;rw [<-e3] at ctb;have HKL:=hdd (show (srt cmpT (heads (λ_=>true) Ea)).length<=1000000 by rw [(tris_new U.A.inv.good).1.length_eq];have hB:=HL.o;unfold Bnd at hB;have:=HM.o;omega);generalize srt cmpT (heads (λ_=>true) Ea)=T8 at *
   clear e1 e3 hEa hEb HA HB HL HG0 hlt;go_wp2_with fail;refine (cta _ U.A.box U.A.map).mono ?_;rintro e w4 ⟨x4,y4,rfl,r4,hb⟩;replace U:=U.ee hb;replace hw:=upB hw hb;clear cta hb;go_wp2_with fail;refine (ctb _ U.B.box U.B.map).mono ?_;rintro e w5 ⟨x5,y5,rfl,r5,hb⟩;replace U:=U.ee hb;replace r4:=r4.ee hb;replace hw:=upB hw hb;clear ctb hb;have cal:=alike_T x4 x5 y4 y5 T8 T8 w5 r4 r5 HKL.o;rw [Qk (rfl:T8=T8)] at cal;go_wp2_with fail;refine cal.mono ?_;rintro e w6 ⟨rfl,hb⟩;replace U:=U.ee hb;replace hw:=upB hw hb;clear cal hb r4 r5;obtain ⟨aS,cS,hvS,SR⟩:=U.A.set.rd;go_wp2_with fail;refine (Kh sa aS cS Da.length Da w6 SR).mono ?_;rintro e w7 ⟨v7,rfl,hrA,hb⟩;obtain ⟨a7,c7,rfl,r7,_⟩:=hrA.row;replace U:=U.ee hb;replace hw:=upB hw hb;clear hb hrA SR hvS;obtain ⟨aS2,cS2,hvS,SR⟩:=U.B.set.rd;go_wp2_with fail;refine (Kh sb2 aS2 cS2 Da.length Da w7 SR).mono ?_;rintro e w8 ⟨v8,rfl,hrB,hb⟩;obtain ⟨a8,c8,rfl,r8,_⟩:=hrB.row;replace r7:=r7.ee hb;replace hw:=upB hw hb;clear hb hrB SR hvS;have cal:=alike_W a7 a8 c7 c8 Da Da w8 r7 r8 hDl;rw [Qk (rfl:Da=Da)] at cal;go_wp2_with fail;refine cal.mono ?_;rintro e w9 ⟨rfl,hb⟩;replace hw:=upB hw hb;clear cal hb r7 r8 U;go_wp2_with fail;refine (jq _).mono ?_;rintro e w10 ⟨rfl,hb⟩;replace hw:=upB hw hb;clear hb;go_wp2
   go_ret
   exact ⟨rfl,hw⟩
  case pos=>
   have hkm:i < X.length:=hX.o▸hlt;have HLT:=hdd hlt;have HK:=hdd (gt_next (k:=i) (JY (UJ hlt) (JY HM.o (by decide))));obtain ⟨kk,hkk⟩:∃ kk,kk=kap ev tt X.length i:=⟨_,rfl⟩;have hkk2:kk < X.length:=by rw [hkk];exact kap_lt hkm
   have HZA:=hdd (ZA_succ (s:=s) hkm);have HZB:=hdd (show ZB s X ev tt (i+1)=ZB s X ev tt i ++ [spt s X[kk]] from by rw [ZB_succ,<-hkk,Vp,JG hkk2];rfl);replace hkk:=hdd hkk;obtain ⟨ad,ea,hab,hA⟩:=(h1.ee hw).num hkm;have h1w:=hdd h1;have hkm2:kk < m:=by rw [<-hX.o];exact hkk2
   generalize X[i]=x at *
   have q0:(i:Int) < (m:Int):=Int.ofNat_lt.2 hlt;have q1:(kk:Int) < (m:Int):=Int.ofNat_lt.2 hkm2;have HLK:=hdd (HL.o.ok hlt HM.o);have hs60:s<=60:=by have:=HS.o.2;omega
   rw [ea];go_wp2_with fail;refine (csp x _).mono ?_;rintro e w4 ⟨rfl,hb⟩;replace U:=U.ee hb;replace hw:=upB hw hb;clear hb hA;have cp:=gstep s HS.o.1 hs60 U.A HLK.o.1 HLK.o.2.1 (spt s x);go_wp2_with fail;refine cp.mono ?_;rintro e w5 ⟨r,Ea2,La2,Da2,va2,rfl,S1,hT1,F1,f1⟩;have hw0:=U.below F1 HN1.o hw;have HIA:=hdd U.A.inv;replace U:=U.step S1 F1 f1;replace hw:=hw0;obtain ⟨la2,G1,y0,y1,y2⟩:=HA.o.step HIA.o (Za HS.o.1 x) hT1;have HA2:=hdd (show Gone s C D0 (ZA s X (i+1)) la2 La2 Da2 from by rw [HZA.o];exact G1);have HL1:=hdd (HL.o.one y0 hT1.2.2.1 hT1.2.2.2.1);clear cp S1 hT1 F1 f1 G1 hw0 y0;cases hr:(r == 0)
   case' true=>
    have hl1:=y1 hr;have en1:=go_n1 HL.o HLT.o HM.o;rw [<-hl1] at en1;clear y1 y2 hl1
   case' false=>
    have hl1:=y2 hr;subst hl1;clear y1 y2
   all_goals
    cases ev
    case' false=>
     obtain ⟨e1,e2⟩:=go_odd HLT.o HM.o hX.o hkk.o
    case' true=>
     obtain ⟨e5,e6,e3,e1,e2⟩:=go_ev HLT.o HM.o hX.o htt.o hkk.o;have cr1:=λW=>Yl (i:=turn) (n:=(m:Int)) e5 e6 W;have cr2:=λW=>Yl (i:=((i+tt:Nat):Int)) (n:=(m:Int)) e5 e6 W;rw [e3] at cr1;rw [e2] at cr2;clear e5 e6 e3 e2;go_wp2_with fail;refine (cr1 _).mono ?_;rintro e wc1 ⟨rfl,hb⟩;replace U:=U.ee hb;replace hw:=upB hw hb;clear hb cr1;go_wp2_with fail;refine (cr2 _).mono ?_;rintro e wc2 ⟨rfl,hb⟩;replace U:=U.ee hb;replace hw:=upB hw hb;clear hb cr2
    all_goals
     obtain ⟨ad3,ea3,hab3,hA⟩:=(h1w.o.ee hw).num hkk2;obtain rfl:ad=ad3:=by rw [ea] at ea3;exact JU ea3
     clear ea3;generalize X[kk]=y at *
     go_wp2_with fail;refine (csp y _).mono ?_;rintro e w6 ⟨rfl,hb⟩;replace U:=U.ee hb;replace hw:=upB hw hb;clear hb;have cq:=gstep s HS.o.1 hs60 U.B HLK.o.2.2.1 HLK.o.2.2.2 (spt s y);go_wp2_with fail;refine cq.mono ?_;rintro e w7 ⟨r2,Eb2,Lb2,Db2,vb2,rfl,S2,hT2,F2,f2⟩;have U2:=(U.swap.step S2 F2 f2).swap;have hw2:=U.swap.below F2 HN1.o hw;obtain ⟨lb2,G2,y0,y1,y2⟩:=HB.o.step U.B.inv (Za HS.o.1 y) hT2;have HB2:=hdd (show Gone s C D0 (ZB s X _ tt (i+1)) lb2 Lb2 Db2 from by rw [HZB.o];exact G2);have HL2:=hdd (HL.o.swap.one y0 hT2.2.2.1 hT2.2.2.2.1);clear cq S2 hT2 F2 f2 G2 U hw y0;cases hr2:(r2 == 0)
     case' true=>
      have hl2:=y1 hr2;have en:=go_n2 HL.o HL1.o HLT.o HM.o hl2;clear y1 y2 hl2
     case' false=>
      have hl2:=y2 hr2;subst hl2;have en:(la2.length:Int)=la2.length:=rfl;clear y1 y2
     all_goals
      go_wp2_with fail
      go_roundw
      case rel=>exact ⟨i+1,la2,lb2,va2,vb2,Ea2,Eb2,La2,Lb2,Da2,Db2,by rw [HK.o],by first | rfl | rw [en],HLT.o,U2,HA2,HB2,hdd (HL1.o.both HL2.o),hw2⟩
      case measure=>exact gt_meas HLT.o HK.o
end
end Go.Proofs.YthhcehmmglmlfaaGreat
