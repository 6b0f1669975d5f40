import Derived.Test.YtmpfadapbbjbkaaGreatPgt13
set_option maxRecDepth 100000
set_option maxHeartbeats 8000000
set_option linter.all false
namespace Go.Proofs.YtmpfadapbbjbkaaGreat
open _root_.Go.Proofs.Tryz
section
open Go.RowKit Go.Sort
attribute [local go_sem] rOper rAt rUpon cell_set sg_i64 sg_u64 alloc_cell alloc_frozen
attribute [local go_sem 10000] pt_eql pt_neq tri_eql
attribute [local irreducible] rWalk
theorem gt_yes (s:Int) (hs:0 < s) (hs2:s<=40) (a0:Option Addr) (n c0:Nat) (hn:n<=25) (P:List Int) (hP:Hi (P.length=n)) (a2:Option Addr) (q c2:Nat) (hq:q<=12) (Q:List Pt) (hQ:Hi (Q.length=q)) (a1:Option Addr) (m c1:Nat) (hm:m<=15) (X:List Pt) (hX:Hi (X.length=m)) (T:Tri3) (w:World) (h0:RowAt cI 1 w a0 P) (hq0:RowAt cP 2 w a2 Q) (h1:RowAt cP 2 w a1 X):Calls prog 3 #[s,.slice a0 n c0,.slice a2 q c2,.slice a1 m c1,T] w (Rt w (.bool true)):=by
 have cf:=λW=>ub s a0 a2 n q c0 c2 W;rw [show (decide (1<=s) && (decide (s<=40) && (decide (n<=25) && decide (q<=12))))=true by simp;omega] at cf;have em:((15:Int) < (m:Int))=False:=by simp;omega
 have HS:=hdd (show 0 < s/\s<=40 from ⟨hs,hs2⟩);have HN:=hdd hn;have HMM:=hdd hm;have HQQ:=hdd hq;clear hs hs2 hn hm hq
 go_enter func3,ntmps3
 go_wp2_with fail;refine zI λW1 hW=>?_;have BT:Box W1 w [T.A.x,T.A.y,T.B.x,T.B.y,T.C.x,T.C.y] 28:=by rw [hW];exact Box.new rfl
 have hw:Below w w W1:=by rw [hW];go_grown
 clear hW;refine (cf _).mono ?_;rintro e w1 ⟨rfl,hb⟩;obtain ⟨BT,hw,-⟩:=qX1 BT hw hb;clear cf hb;go_wp2_with fail;refine (jl s HS.o.1 (by have:=HS.o.2;omega) a0 a2 n q c0 c2 P hP (by have:=HN.o;omega) Q hQ (by have:=HQQ.o;omega) w1 (h0.ee hw) (hq0.ee hw)).mono ?_;rintro e w2 ⟨n0,m2,b2,sb,v,cb,mb,b,db,vd,E,E1,L,D,rfl,B2,H2,G2,S2,C2,I2,_,hL,hD,_,hb,hbb,hdb,hn0,⟨hc1,hc2,hc3,hc4,hc5⟩,hm1,hb1,hs1,ho1,_,hF⟩;have HN1:=hdd (show w.heap.size < w1.heap.size from BT.lt);have hA:∀ {k:Nat},k < n0->Apt b2 sb v k:=λ{k} hk=>⟨by omega,λh=>by
  rcases h with h | h
  ·omega
  ·have:=ho1 k h;omega⟩
 have B:Two9 s w1.heap.size w2 m2 b2 sb v E L D cb mb b db vd E1 L D:=⟨⟨B2,H2,S2,⟨G2,I2.fix,I2.kinds,I2.wal,I2.rim⟩,hF⟩,C2,I2,⟨hA hc1,hA hc2,hA hc3,hA hc4,λg hg=>hA (hc5 g hg),by omega,by omega,by omega,λk h=>by
  rcases h with h | h
  ·omega
  ·have:=ho1 k h;omega,hbb,hdb⟩⟩
 have HB:=hdd (show L.length<=52+2 * 0/\L.length<=52+2 * 0/\D.length<=6000+2 * 0 by have:=HN.o;have:=hP.o;omega);obtain ⟨BT,hw,-⟩:=qX1 BT hw hb;clear hb hA B2 H2 G2 S2 C2 I2 hL hD hbb hdb hn0 hc1 hc2 hc3 hc4 hc5 hm1 hb1 hs1 ho1 hF h0 hq0 em;generalize w1.heap.size=n1 at *
 go_wp2_with fail;refine zG λw3 hW3=>?_;replace B:=B.ext (show Below w2 w2 w3 by rw [hW3];go_grown) rfl;replace BT:=BT.ext (show Below w2 w2 w3 by rw [hW3];go_grown) rfl;replace hw:Below w w w3:=by have hl:=hw.size;rw [hW3];go_grown
 clear hW3
 go_loopw [14] (λvi wr=>∃ (k:Nat) (v:Value) (E:Es) (L:List Tri3) (D:List Wl) (vd:Value) (E1:Es) (L1:List Tri3),vi=.int .i64 k/\k<=m/\Two9 s n1 wr m2 b2 sb v E L D cb mb b db vd E1 L1 D/\Hi (∀ q,someC L q↔someC L1 q)/\Hi (L.length<=52+2 * k/\L1.length<=52+2 * k/\D.length<=6000+2 * k)/\Box wr w [T.A.x,T.A.y,T.B.x,T.B.y,T.C.x,T.C.y] 28/\Below w w wr) (λvi _=>m - (intOf vi).toNat)
 case atStart=>exact ⟨0,v,E,L,D,vd,E1,L,rfl,JZ _,B,hdd (λ_=>UC),HB,BT,hw⟩
 case round=>
  clear B HB BT hw;obtain ⟨k,v,E,L,D,vd,E1,L1,rfl,hk,B,HC,HB,BT,hw⟩:=hrel;by_cases hlt:k < m
  case neg=>
   focus
    obtain rfl:m=k:=by omega
    have hkn:¬ (m:Int) < (m:Int):=by omega
    clear hlt hk;have hE:E.length<=1000000:=by rw [B.S.inv.good.len];have:=HB.o;have:=HMM.o;omega
    have hE1:E1.length<=1000000:=by rw [B.I.good.len];have:=HB.o;have:=HMM.o;omega
    have hDL:D.length<=1000000:=by have:=HB.o;have:=HMM.o;omega
    have ct:=λW B H=>Zf m2 b2 E hE W B H;have cu:=λW B H=>ZR mb b E1 hE1 W B H;rw [fix_same HS.o.1 (by have:=HS.o.2;omega) B.I.good B.S.inv.good B.I.fix B.S.inv.fix B.I.wal.edge B.S.inv.wal.edge (λp=>(HC.o p).symm)] at cu;have hTL:(srt cmpT (heads (λ_=>true) E)).length<=1000000:=by rw [(zS _).length_eq];exact JQ (yc _ _) hE
    generalize srt cmpT (heads (λ_=>true) E)=T6 at *
    obtain ⟨aS,cS,hvS,SR⟩:=B.S.set.rd;obtain ⟨aW,cW0,hvW,Dr,_⟩:=B.C.doc.rd;have ca:=λW S=>all_any sb aS cS D.length D W S;clear hE hE1 hvS hvW HB HC;have BS:=B.S;have BC:=B.C;clear B;have gc:=BC.box.cells;have gd:=Dr.box.cells;go_wp2_with fail;refine FT.wp_region_flow 23 (.run 0 (.run 2 (.run 3 (.run 4 (.run 5 (.alt 1 (.alt 6 (.alt 7 (.run 8 (.run 9 (.run 11 (.run 12 (.run 13 (.run 14 (.run 15 (.run 16 (.run 17 (.alt 10 (.alt 18 (.run 19 (.run 20 (.alt 21 (.run 22 (.tail)) .stop))) .stop) .stop)))))))))) .stop) .stop) .stop)))))) rfl (by kernel_rfl) (λ_ x _ _ _ h=>by cases x <;> exact h) (C:=λw'=>∃ p:Regrown,w'=grow (redrawn wr p.d) p.os) rgB (tb _) ?_
    iterate 5 (refine FT.flow_run rfl (λK hK=>?_);go_simp;first | (refine hK _ ?_;clear hK K) | (apply Exists.intro;refine ⟨λ_=>?_,hK _ ?_⟩;rotate_left;clear hK K))
    refine FT.flow_at (on_of _) rfl trivial (λv4 hwE K hK=>?_);have hz4:Below wr wr v4:=hwE;go_simp;refine (ct v4 (BS.box.ee hz4) (BS.map.ee hz4)).mono ?_;rintro e u4 ⟨x4,y4,rfl,r4,hb⟩;have hz4b:Below wr wr u4:=(upB hz4 hb);clear hwE hb hz4;go_simp;refine hK _ _ (regrown_of_below hz4b) ?_;clear hK K;refine FT.flow_at (on_of _) rfl trivial (λv5 hwE K hK=>?_);have hz5:Below wr wr v5:=hz4b.trans (Below.mono hwE hz4b.size);replace r4:=r4.ee hwE;go_simp;refine (cu v5 (BC.mesh.ee hz5) (BC.map.ee hz5)).mono ?_;rintro e u5 ⟨x5,y5,rfl,r5,hb⟩;replace r4:=r4.ee hb;have hz5b:Below wr wr u5:=(upB hz5 hb);clear hwE hb hz5 hz4b;go_simp;refine hK _ _ (regrown_of_below hz5b) ?_;clear hK K;refine FT.flow_at (on_of _) rfl trivial (λv6 hwE K hK=>?_);have hz6:Below wr wr v6:=hz5b.trans (Below.mono hwE hz5b.size);replace r4:=r4.ee hwE;replace r5:=r5.ee hwE;go_simp;refine (KS x4 x5 y4 y5 _ _ v6 r4 r5 hTL).mono ?_;rintro e u6 ⟨rfl,hb⟩;clear r4 r5;have hz6b:Below wr wr u6:=(upB hz6 hb);clear hwE hb hz6 hz5b;go_simp;refine hK _ _ (regrown_of_below hz6b) ?_;clear hK K
    iterate 9 (refine FT.flow_run rfl (λK hK=>?_);go_simp;first | (refine hK _ ?_;clear hK K) | (apply Exists.intro;refine ⟨λ_=>?_,hK _ ?_⟩;rotate_left;clear hK K))
    refine FT.flow_at (on_of _) rfl trivial (λv7 hwE K hK=>?_);have hz7:Below wr wr v7:=hz6b.trans (Below.mono hwE hz6b.size);go_simp;refine (ca v7 (SR.ee hz7)).mono ?_;rintro e u7 ⟨v70,rfl,hr7,hb⟩;obtain ⟨x7,y7,rfl,r7,_⟩:=hr7.row;clear hr7;have hz7b:Below wr wr u7:=(upB hz7 hb);clear hwE hb hz7 hz6b;go_simp;refine hK _ _ (regrown_of_below hz7b) ?_;clear hK K;refine FT.flow_at (on_of _) rfl trivial (λv8 hwE K hK=>?_);have hz8:Below wr wr v8:=hz7b.trans (Below.mono hwE hz7b.size);replace r7:=r7.ee hwE;go_simp;refine (alike_W x7 aW y7 cW0 D D v8 r7 (Dr.ee hz8).row hDL).mono ?_;rintro e u8 ⟨rfl,hb⟩;clear r7;have hz8b:Below wr wr u8:=(upB hz8 hb);clear hwE hb hz8 hz7b;go_simp;refine hK _ _ (regrown_of_below hz8b) ?_;clear hK K
    iterate 2 (refine FT.flow_run rfl (λK hK=>?_);go_simp;first | (refine hK _ ?_;clear hK K) | (apply Exists.intro;refine ⟨λ_=>?_,hK _ ?_⟩;rotate_left;clear hK K))
    refine FT.flow_at (on_of _) rfl trivial (λv9 hwE K hK=>?_);have hz9:Below wr wr v9:=hz8b.trans (Below.mono hwE hz8b.size);go_simp;refine (xo v9).mono ?_;rintro e u9 ⟨rfl,hb⟩;have hz9b:Below wr wr u9:=(upB hz9 hb);clear hwE hb hz9 hz8b;go_simp;refine hK _ _ (regrown_of_below hz9b) ?_;clear hK K
    iterate 1 (refine FT.flow_run rfl (λK hK=>?_);go_simp;first | (refine hK _ ?_;clear hK K) | (apply Exists.intro;refine ⟨λ_=>?_,hK _ ?_⟩;rotate_left;clear hK K))
    intro w77 hw77;have hz:=hz9b.trans (Below.mono hw77 hz9b.size);have hwz:=(upB hw hz);clear hw77 hz hz9b;simp only [dP1,dP0];go_wp2
    go_ret
    exact ⟨rfl,hwz⟩
  case pos=>
   focus
    have hkm:k < X.length:=hX.o▸hlt;have HLT:=hdd hlt;have HK:=hdd (KJ (k:=k) (by have:=HMM.o;omega));obtain ⟨ad,A,ea,eA,hA⟩:=(h1.ee hw).two hkm;have h1w:=h1;generalize hx:X[k]=x at *
    subst ea;have q0:(k:Int) < (m:Int):=by omega
    have hLk:=hdd (show L.length<=92/\L1.length<=20000/\D.length<=20000 by have:=HB.o;have:=HMM.o;omega);have cp:=λW (S:GSt s W m2 b2 sb v E L D)=>gstep s HS.o.1 (by have:=HS.o.2;omega) S hLk.o.1 hLk.o.2.2 x;have cd:=λW (C:CdtAt W cb mb b db vd s s E1 D)=>uy cb mb b db vd s s HS.o.1 HS.o.1 (by have:=HS.o.2;omega) (by have:=HS.o.2;omega) E1 L1 D B.I hLk.o.2.1 hLk.o.2.2 x W C;have cA:=ZA T x;have cB:=YZ T x;rw [show srt cmpT (cutR T x)=cutS x T from rfl] at cB;have hcl:(cutS x T).length<=1000000:=by unfold cutS cutR;rw [(zS _).length_eq];split;exact JQ (km _ _) (by omega);simp
    generalize cutS x T=I at *
    go_wp2_with fail;refine FT.wp_region_flowC 29 (.run 0 (.run 1 (.run 2 (.run 3 (.run 4 (.run 5 (.run 7 (.run 8 (.run 9 (.run 10 (.run 11 (.alt 6 (.alt 12 (.run 13 (.run 14 (.run 15 (.run 16 (.run 17 (.run 18 (.run 19 (.run 21 (.run 22 (.run 23 (.run 24 (.run 25 (.alt 20 (.alt 26 (.alt 27 (.run 28 (.tail)) .stop) .stop) .stop))))))))))))) .stop) .stop)))))))))))) rfl (by kernel_rfl) (λ_ x _ _ _ h=>by cases x <;> exact h) (C:=λw'=>Box w' w.heap.size [T.A.x,T.A.y,T.B.x,T.B.y,T.C.x,T.C.y] 28/\Two w' A x) (λw' hw'=>⟨BT.ee hw',hA.ee hw'⟩) (λ_ _ h1 h2=>⟨h2.1.ee h1,h2.2.ee h1⟩) ?_
    iterate 5 (refine FT.flow_run rfl (λK hK=>?_);go_simp;first | (refine hK _ ?_;clear hK K) | (refine ⟨_,λ_ _ _=>rfl,hK _ ?_⟩;clear hK K))
    refine FT.flow_run rfl (λK hK=>?_);go_simp;refine ⟨.agg #[x.x,x.y],λwq hwq1 hwq2=>?_,hK _ ?_⟩
    ·obtain ⟨y0,y1,y2⟩:=hwq2.f;go_simp
    clear hK K
    iterate 4 (refine FT.flow_run rfl (λK hK=>?_);go_simp;first | (refine hK _ ?_;clear hK K) | (refine ⟨_,λ_ _ _=>rfl,hK _ ?_⟩;clear hK K))
    refine FT.flow_run rfl (λK hK=>?_);go_simp;refine ⟨.agg #[x.x,x.y],λwq hwq1 hwq2=>?_,hK _ ?_⟩
    ·obtain ⟨y0,y1,y2⟩:=hwq2.f;go_simp
    clear hK K;refine FT.flow_at (λ_ _ h1 h2=>⟨h2.1.ee h1,h2.2.ee h1⟩) rfl trivial (λv1 hwE K hK=>?_);replace B:=B.ee hwE;replace BT:=BT.ee hwE;replace hA:=hA.ee hwE;replace hw:=hw.trans (Below.mono hwE hw.size);clear hwE;go_simp;refine (cp v1 B.S).mono ?_;rintro e u1 ⟨r,E',L',D',v',rfl,S',hT,F9,f9⟩;have hn9:n1<=v1.heap.size:=JQ B.A.lo.2.2.1 (UJ B.C.map.lt);have hF9:∀ k,(k=b2\/Foot sb v k)->n1<=k:=λk e=>by
     rcases e with rfl | e
     ·exact B.A.lo.1
     ·exact B.A.lo.2.1 k e
    have B2:=B.prog hn9 S' F9 f9;replace BT:=F9.box BT (λe=>by have:=hF9 _ e;have:=HN1.o;omega);replace hw:Below w w u1:=hw.trans (F9.below (λk e=>by have:=hF9 k e;have:=HN1.o;omega) hw.size);have HT:=hdd hT;have HI0:=hdd B.S.inv;have hA2:=((h1w.ee hw).two hkm);rw [hx] at hA2;obtain ⟨ad2,A2,ea2,eA2,hA2⟩:=hA2;obtain rfl:=JL ea2;obtain rfl:A=A2:=eA.symm.trans eA2;clear ea2 eA2 hA cp S' hT F9 f9 hn9 hF9 B;go_simp;refine hK _ _ ⟨BT,hA2⟩ ?_;clear hK K;refine FT.flow_at (λ_ _ h1 h2=>⟨h2.1.ee h1,h2.2.ee h1⟩) rfl trivial (λv2 hwE K hK=>?_);replace B2:=B2.ee hwE;replace BT:=BT.ee hwE;replace hw:=hw.trans (Below.mono hwE hw.size);clear hwE hA2;go_simp;refine (cd v2 B2.C).mono ?_;rintro e u2 ⟨r2,vd',E1',L1',D1',rfl,C',I',hR,hC2,hl2,_,_,hD0,hD1,F9,f9⟩;have hF9:∀ k,(k=b\/k=db)->n1<=k:=λk e=>by
     rcases e with rfl | rfl
     ·exact B2.A.lo.2.2.1
     ·exact B2.A.lo.2.2.2
    have B3:=B2.doc C' I' F9 f9;replace BT:=F9.box BT (λe=>by have:=hF9 _ e;have:=HN1.o;omega);replace hw:Below w w u2:=hw.trans (F9.below (λk e=>by have:=hF9 k e;have:=HN1.o;omega) hw.size);obtain ⟨er,eD,hcc⟩:=both_same HC.o HI0.o B2.S.inv I' HT.o hR hC2 hD0 hD1;subst er eD;have HC':=hdd hcc;have HB':=hdd (show L'.length<=52+2 * (k+1)/\L1'.length<=52+2 * (k+1)/\D1'.length<=6000+2 * (k+1) by
     have:=HB.o;have:=HT.o.2.2.1;have:=HT.o.2.2.2.1;omega)
    have hA3:=((h1w.ee hw).two hkm);rw [hx] at hA3;obtain ⟨ad2,A2,ea2,eA2,hA3⟩:=hA3;obtain rfl:=JL ea2;obtain rfl:A=A2:=eA.symm.trans eA2;have hrr:(r2 != r2)=false:=by simp
    clear ea2 eA2 cd C' I' hR hC2 hl2 hD0 hD1 F9 f9 hF9 B2 hcc HT HI0 HB HC hLk;go_simp;refine hK _ _ ⟨BT,hA3⟩ ?_;clear hK K
    iterate 2 (refine FT.flow_run rfl (λK hK=>?_);go_simp;first | (refine hK _ ?_;clear hK K) | (refine ⟨_,λ_ _ _=>rfl,hK _ ?_⟩;clear hK K))
    refine FT.flow_run rfl (λK hK=>?_);go_simp;refine ⟨.agg #[T.A.x,T.A.y,T.B.x,T.B.y,T.C.x,T.C.y],λwq hwq1 hwq2=>?_,hK _ ?_⟩
    ·obtain ⟨y0,y1,y2,y3⟩:=hwq1.f;go_simp
    clear hK K
    iterate 3 (refine FT.flow_run rfl (λK hK=>?_);go_simp;first | (refine hK _ ?_;clear hK K) | (refine ⟨_,λ_ _ _=>rfl,hK _ ?_⟩;clear hK K))
    refine FT.flow_run rfl (λK hK=>?_);go_simp;refine ⟨.agg #[x.x,x.y],λwq hwq1 hwq2=>?_,hK _ ?_⟩
    ·obtain ⟨y0,y1,y2⟩:=hwq2.f;go_simp
    clear hK K;refine FT.flow_run rfl (λK hK=>?_);go_simp;refine ⟨.agg #[T.A.x,T.A.y,T.B.x,T.B.y,T.C.x,T.C.y],λwq hwq1 hwq2=>?_,hK _ ?_⟩
    ·obtain ⟨y0,y1,y2,y3⟩:=hwq1.f;go_simp
    clear hK K
    iterate 3 (refine FT.flow_run rfl (λK hK=>?_);go_simp;first | (refine hK _ ?_;clear hK K) | (refine ⟨_,λ_ _ _=>rfl,hK _ ?_⟩;clear hK K))
    refine FT.flow_run rfl (λK hK=>?_);go_simp;refine ⟨.agg #[x.x,x.y],λwq hwq1 hwq2=>?_,hK _ ?_⟩
    ·obtain ⟨y0,y1,y2⟩:=hwq2.f;go_simp
    clear hK K;refine FT.flow_at (λ_ _ h1 h2=>⟨h2.1.ee h1,h2.2.ee h1⟩) rfl trivial (λv3 hwE K hK=>?_);replace B3:=B3.ee hwE;replace BT:=BT.ee hwE;replace hA3:=hA3.ee hwE;replace hw:=hw.trans (Below.mono hwE hw.size);clear hwE;go_simp;refine (cA v3).mono ?_;rintro e u3 ⟨xa,ya,rfl,ra,hb⟩;replace B3:=B3.ee hb;replace BT:=BT.ee hb;replace hA3:=hA3.ee hb;replace hw:=hw.trans (Below.mono hb hw.size);clear hb;go_simp;refine hK _ _ ⟨BT,hA3⟩ ?_;clear hK K;refine FT.flow_at (λ_ _ h1 h2=>⟨h2.1.ee h1,h2.2.ee h1⟩) rfl trivial (λv4 hwE K hK=>?_);replace B3:=B3.ee hwE;replace BT:=BT.ee hwE;replace hA3:=hA3.ee hwE;replace hw:=hw.trans (Below.mono hwE hw.size);replace ra:=ra.ee hwE;clear hwE;go_simp;refine (cB v4).mono ?_;rintro e u4 ⟨xb,yb,rfl,rb,hb⟩;replace B3:=B3.ee hb;replace BT:=BT.ee hb;replace hA3:=hA3.ee hb;replace hw:=hw.trans (Below.mono hb hw.size);replace ra:=ra.ee hb;clear hb;go_simp;refine hK _ _ ⟨BT,hA3⟩ ?_;clear hK K;refine FT.flow_at (λ_ _ h1 h2=>⟨h2.1.ee h1,h2.2.ee h1⟩) rfl trivial (λv5 hwE K hK=>?_);replace B3:=B3.ee hwE;replace BT:=BT.ee hwE;replace hA3:=hA3.ee hwE;replace hw:=hw.trans (Below.mono hwE hw.size);replace ra:=ra.ee hwE;replace rb:=rb.ee hwE;clear hwE;go_simp;refine (KS xa xb ya yb _ _ v5 ra rb hcl).mono ?_;rintro e u5 ⟨rfl,hb⟩;replace B3:=B3.ee hb;replace BT:=BT.ee hb;replace hA3:=hA3.ee hb;replace hw:=hw.trans (Below.mono hb hw.size);clear hb ra rb hcl;go_simp;refine hK _ _ ⟨BT,hA3⟩ ?_;clear hK K
    iterate 1 (refine FT.flow_run rfl (λK hK=>?_);go_simp;first | (refine hK _ ?_;clear hK K) | (refine ⟨_,λ_ _ _=>rfl,hK _ ?_⟩;clear hK K))
    intro w6 hw6;replace B3:=B3.ee hw6;replace BT:=BT.ee hw6;replace hw:=hw.trans (Below.mono hw6 hw.size);clear hw6 hA3;simp only [dP1,dP0];go_wp2_with fail
    go_roundw
    case rel=>exact ⟨k+1,v',E',L',D1',vd',E1',L1',by rw [HK.o],HLT.o,B3,HC',HB',BT,hw⟩
    case measure=>exact KK HLT.o HK.o
end
end Go.Proofs.YtmpfadapbbjbkaaGreat
