import Derived.Test.YtmpfadapbbjbkaaGreatPgt15
set_option maxRecDepth 100000
set_option maxHeartbeats 8000000
set_option linter.all false
namespace Go.Proofs.YtmpfadapbbjbkaaGreat
open _root_.Go.Proofs.Tryz
section
open Go.RowKit Go.Sort
attribute [local go_sem] rOper rAt rUpon cell_set sg_i64 sg_u64 alloc_cell alloc_frozen
attribute [local go_sem 10000] pt_eql pt_neq tri_eql
attribute [local irreducible] rWalk
theorem gv_no (s:Int) (a0 a2:Option Addr) (n q c0 c2:Nat) (N:Int) (hf:(decide (1<=s) && (decide (s<=40) && (decide (n<=25) && decide (q<=12))))=false) (w:World):Calls prog 5 #[s,.slice a0 n c0,.slice a2 q c2,N] w (Rt w (.bool true)):=by
 have cf:=λW=>ub s a0 a2 n q c0 c2 W;rw [hf] at cf;clear hf
 go_enter func5,ntmps5
 go_wp2_with fail;refine (cf _).mono ?_;rintro e w1 ⟨rfl,hb⟩;go_wp2_with fail;refine (xo _).mono ?_;rintro e w2 ⟨rfl,hb2⟩;have hw:=(upB hb hb2);go_wp2
 go_ret
 exact ⟨rfl,hw⟩
theorem gv_yes (s:Int) (hs:0 < s) (hs2:s<=40) (a0:Option Addr) (n c0:Nat) (hn:n<=25) (P:List Int) (hP:Hi (P.length=n)) (a2:Option Addr) (q c2:Nat) (hq:q<=12) (Q:List Pt) (hQ:Hi (Q.length=q)) (N:Int) (w:World) (h0:RowAt cI 1 w a0 P) (hq0:RowAt cP 2 w a2 Q):Calls prog 5 #[s,.slice a0 n c0,.slice a2 q c2,N] w (Rt w (.bool true)):=by
 have cf:=λW=>ub s a0 a2 n q c0 c2 W;rw [show (decide (1<=s) && (decide (s<=40) && (decide (n<=25) && decide (q<=12))))=true by simp;omega] at cf;have csp:=vu s N hs (by omega);have HX:=hdd (YS hs N);generalize spt s N=x at csp HX
 have HS:=hdd (show 0 < s/\s<=40 from ⟨hs,hs2⟩);have HN:=hdd hn;have HQQ:=hdd hq;clear hs hs2 hn hq
 go_enter func5,ntmps5
 go_wp2_with fail;refine (cf _).mono ?_;rintro e w1 ⟨rfl,hw⟩;clear cf;go_wp2_with fail;refine (jl s HS.o.1 (by have:=HS.o.2;omega) a0 a2 n q c0 c2 P hP (by have:=HN.o;omega) Q hQ (by have:=HQQ.o;omega) w1 (h0.ee hw) (hq0.ee hw)).mono ?_;rintro e w2 hpost;obtain ⟨m2,b2,sb,v,cb,mb,b,db,vd,E,E1,L,D,rfl,U0,hL,hD,hb⟩:=built9_two hpost;have HLD:=hdd (show L.length<=52/\D.length<=6000 by have:=HN.o;have:=hP.o;omega);have HW1:=hdd hw.size;replace hw:=upB hw hb;generalize w1.heap.size=n1 at *
 clear hb hL hD h0 hq0 hpost;go_wp2_with fail;refine (csp _).mono ?_;rintro e w3 ⟨rfl,hb⟩;replace U0:=U0.ee hb;replace hw:=upB hw hb;clear hb csp;go_wp2_with fail;refine zG λW4 hW=>?_;obtain ⟨bq,hbq⟩:∃ b,w3.heap.size=b:=⟨_,rfl⟩;rw [hbq];have BQ:Box W4 bq [x.x,x.y] 26:=by rw [hW];exact Box.new hbq.symm
 have hb:Below w3 w3 W4:=by rw [hW];go_grown
 have hAq:=U0.S.apt (k:=bq) (by omega);replace U0:=U0.ee hb;replace hw:=upB hw hb;clear hW hb hbq;obtain ⟨aW,cW0,hvW,Dr,_⟩:=U0.C.doc.rd;have cO:=λW R=>jz db aW cW0 D.length D x W R;obtain ⟨V,ob,hV,hOb,hVX⟩:=onV_some (D.find? (onD x));rw [hV] at cO;have HOB:=hdd hOb;have HVX:=hdd hVX;clear hV hOb hvW hVX;have gC:=U0.C.box.cells;have gQ:=BQ.cells;refine FT.wp_region_flow 11 (.run 0 (.run 1 (.run 2 (.run 3 (.run 4 (.alt 5 (.run 6 (.run 7 (.run 8 (.alt 9 (.alt 10 (.tail) .stop) .stop)))) (.alt 9 (.alt 5 (.run 6 (.run 7 (.run 8 (.alt 10 (.tail) .stop)))) .stop) .stop))))))) rfl (by kernel_rfl) (λ_ x _ _ _ h=>by cases x <;> exact h) (C:=λw'=>∃ p:Regrown,w'=grow (redrawn W4 p.d) p.os) rgB (tb _) ?_
 iterate 5 (refine FT.flow_run rfl (λK hK=>?_);go_simp;first | (refine hK _ ?_;clear hK K) | (apply Exists.intro;refine ⟨λ_=>?_,hK _ ?_⟩;rotate_left;clear hK K))
 refine FT.flow_at (on_of _) rfl ?y9 (λv1 hwE K hK=>?y5)
 case' y5=>
  have hz1:Below W4 W4 v1:=hwE;go_simp;refine (cO v1 (Dr.ee hz1)).mono ?_;rintro e u1 ⟨rfl,hb⟩;have hz2:Below W4 W4 u1:=(upB hz1 hb);clear hb hwE hz1;go_simp;refine hK _ _ (regrown_of_below hz2) ?_;clear hK K
  iterate 3 (refine FT.flow_run rfl (λK hK=>?_);go_simp;first | (refine hK _ ?_;clear hK K) | (apply Exists.intro;refine ⟨λ_=>?_,hK _ ?_⟩;rotate_left;clear hK K))
  refine FT.flow_at (on_of _) rfl trivial (λv2 hwE K hK=>?_);have hz3:Below W4 W4 v2:=hz2.trans (Below.mono hwE hz2.size);clear hwE hz2;go_simp;have hz4:=hz3.alloc hz3.size (.cells #[(),(),(),(),()] 57);obtain ⟨bv,hbv0⟩:∃ bv,v2.heap.size=bv:=⟨_,rfl⟩;have BV:Box (v2.alloc (.cells #[(),(),(),(),()] 57)) bv [(),(),(),(),()] 57:=by rw [<-hbv0];exact Box.new rfl
  have hbv:W4.heap.size<=bv:=by rw [<-hbv0];exact hz3.size
  refine hK _ _ (regrown_of_below hz4) ?_;clear hK K hz3;rw [hbv0];clear hbv0;refine FT.flow_at (on_of _) rfl trivial (λw6 hw6 K hK=>?_);have hb6:Below W4 W4 w6:=hz4.trans (Below.mono hw6 hz4.size);have BV6:=BV.ee hw6;clear BV hw6 hz4;obtain ⟨v0,v1',v2',v3⟩:=BV6.f;go_simp;have HB7:Below W4 W4 (((((w6.setCell ⟨bv,0,none⟩ (.int .i64 V.A.x)).setCell ⟨bv,1,none⟩ (.int .i64 V.A.y)).setCell ⟨bv,2,none⟩ (.int .i64 V.B.x)).setCell ⟨bv,3,none⟩ (.int .i64 V.B.y)).setCell ⟨bv,4,none⟩ (.int .i64 V.K)):=by have hl:=hb6.size;go_grown
  have BV7:Box (((((w6.setCell ⟨bv,0,none⟩ (.int .i64 V.A.x)).setCell ⟨bv,1,none⟩ (.int .i64 V.A.y)).setCell ⟨bv,2,none⟩ (.int .i64 V.B.x)).setCell ⟨bv,3,none⟩ (.int .i64 V.B.y)).setCell ⟨bv,4,none⟩ (.int .i64 V.K)) bv [V.A.x,V.A.y,V.B.x,V.B.y,V.K] 57:=(((((BV6.set 0 (.int .i64 V.A.x)).set 1 (.int .i64 V.A.y)).set 2 (.int .i64 V.B.x)).set 3 (.int .i64 V.B.y)).set 4 (.int .i64 V.K));refine hK _ _ (regrown_of_below HB7) ?_;clear hK K v0 v1' v2' v3 hb6 BV6;generalize (((((w6.setCell ⟨bv,0,none⟩ (.int .i64 V.A.x)).setCell ⟨bv,1,none⟩ (.int .i64 V.A.y)).setCell ⟨bv,2,none⟩ (.int .i64 V.B.x)).setCell ⟨bv,3,none⟩ (.int .i64 V.B.y)).setCell ⟨bv,4,none⟩ (.int .i64 V.K))=w7 at *
  intro wz hwz;have hz:Below W4 W4 wz:=HB7.trans (Below.mono hwz HB7.size);have BV:=BV7.ee hwz;clear HB7 BV7 hwz
 case' y9=>
  refine FT.flow_at (on_of _) rfl trivial (λv2 hwE K hK=>?_);have hz3:Below W4 W4 v2:=hwE;clear hwE;go_simp;have hz4:=hz3.alloc hz3.size (.cells #[(),(),(),(),()] 57);obtain ⟨bv,hbv0⟩:∃ bv,v2.heap.size=bv:=⟨_,rfl⟩;have BV:Box (v2.alloc (.cells #[(),(),(),(),()] 57)) bv [(),(),(),(),()] 57:=by rw [<-hbv0];exact Box.new rfl
  have hbv:W4.heap.size<=bv:=by rw [<-hbv0];exact hz3.size
  refine hK _ _ (regrown_of_below hz4) ?_;clear hK K hz3;rw [hbv0];clear hbv0;refine FT.flow_at (on_of _) rfl trivial (λv1 hwE K hK=>?_);have hz1:Below W4 W4 v1:=hz4.trans (Below.mono hwE hz4.size);replace BV:=BV.ee hwE;clear hwE hz4;go_simp;refine (cO v1 (Dr.ee hz1)).mono ?_;rintro e u1 ⟨rfl,hb⟩;have hz2:Below W4 W4 u1:=(upB hz1 hb);replace BV:=BV.ee hb;clear hb hz1;go_simp;refine hK _ _ (regrown_of_below hz2) ?_;clear hK K
  iterate 3 (refine FT.flow_run rfl (λK hK=>?_);go_simp;first | (refine hK _ ?_;clear hK K) | (apply Exists.intro;refine ⟨λ_=>?_,hK _ ?_⟩;rotate_left;clear hK K))
  refine FT.flow_at (on_of _) rfl trivial (λw6 hw6 K hK=>?_);have hb6:Below W4 W4 w6:=hz2.trans (Below.mono hw6 hz2.size);have BV6:=BV.ee hw6;clear BV hw6 hz2;obtain ⟨v0,v1',v2',v3⟩:=BV6.f;go_simp;have HB7:Below W4 W4 (((((w6.setCell ⟨bv,0,none⟩ (.int .i64 V.A.x)).setCell ⟨bv,1,none⟩ (.int .i64 V.A.y)).setCell ⟨bv,2,none⟩ (.int .i64 V.B.x)).setCell ⟨bv,3,none⟩ (.int .i64 V.B.y)).setCell ⟨bv,4,none⟩ (.int .i64 V.K)):=by have hl:=hb6.size;go_grown
  have BV7:Box (((((w6.setCell ⟨bv,0,none⟩ (.int .i64 V.A.x)).setCell ⟨bv,1,none⟩ (.int .i64 V.A.y)).setCell ⟨bv,2,none⟩ (.int .i64 V.B.x)).setCell ⟨bv,3,none⟩ (.int .i64 V.B.y)).setCell ⟨bv,4,none⟩ (.int .i64 V.K)) bv [V.A.x,V.A.y,V.B.x,V.B.y,V.K] 57:=(((((BV6.set 0 (.int .i64 V.A.x)).set 1 (.int .i64 V.A.y)).set 2 (.int .i64 V.B.x)).set 3 (.int .i64 V.B.y)).set 4 (.int .i64 V.K));refine hK _ _ (regrown_of_below HB7) ?_;clear hK K v0 v1' v2' v3 hb6 BV6;generalize (((((w6.setCell ⟨bv,0,none⟩ (.int .i64 V.A.x)).setCell ⟨bv,1,none⟩ (.int .i64 V.A.y)).setCell ⟨bv,2,none⟩ (.int .i64 V.B.x)).setCell ⟨bv,3,none⟩ (.int .i64 V.B.y)).setCell ⟨bv,4,none⟩ (.int .i64 V.K))=w7 at *
  intro wz hwz;have hz:Below W4 W4 wz:=HB7.trans (Below.mono hwz HB7.size);have BV:=BV7.ee hwz;clear HB7 BV7 hwz
 all_goals
  clear cO gC gQ Dr BV hbv;replace U0:=U0.ee hz;replace BQ:=BQ.ee hz;replace hw:=upB hw hz;clear hz;simp only [dP1,dP0];have HE:=hdd U0.S.inv.good.len;go_wp2_with fail;refine (uM m2 b2 E L.length HE (by have:=HLD.o;omega) _ U0.S.box U0.S.map).mono ?_;rintro e w8 ⟨rfl,hb⟩;replace U0:=U0.ee hb;obtain ⟨BQ,hw,-⟩:=qX1 BQ hw hb;clear hb HE;go_wp2_with fail;obtain ⟨aS,cS,hvS,SR⟩:=U0.S.set.rd;refine (Yy sb aS cS D.length D _ SR).mono ?_;rintro e w9 ⟨rfl,hb⟩;replace U0:=U0.ee hb;obtain ⟨BQ,hw,-⟩:=qX1 BQ hw hb;clear hb hvS SR;obtain ⟨v0,v1',v2',v3⟩:=BQ.f;go_wp2_with fail;clear v0 v1' v2' v3;have hn9:n1<=w9.heap.size:=JQ U0.A.lo.2.2.1 (UJ U0.C.map.lt);refine (gstep s HS.o.1 (by have:=HS.o.2;omega) U0.S (by have:=HLD.o;omega) (by have:=HLD.o;omega) x).mono ?_;rintro e w10 ⟨r,E',L',D',v',rfl,S',hT,F9,f9⟩;replace BQ:=hAq.box BQ F9;replace hw:Below w w w10:=hw.trans (F9.below (λk e=>by
   have:=HW1.o;rcases e with rfl | e
   ·have:=U0.A.lo.1;omega
   ·have:=U0.A.lo.2.1 k e;omega) hw.size)
  have U2:=U0.prog hn9 S' F9 f9;clear U0 S' F9 f9 hn9 hAq;have hE1:E1.length<=1000000:=by rw [U2.I.good.len];have:=HLD.o;omega
  have cS:=λW U0 H=>xA mb b E1 x hE1 W U0 H;have hst:=U2.I.good.star_nil x;have hpm:(srt cmpT (starE x E1)).length=0↔starE x E1=[]:=by rw [(zS _).length_eq,Je]
  rw [hst] at hpm;have HSt:=hdd hpm;generalize srt cmpT (starE x E1)=SL at *
  obtain ⟨sl,hsl⟩:∃ z,SL.length=z:=⟨_,rfl⟩;rw [hsl] at HSt cS;clear hst hpm hsl hE1;have gC:=U2.C.box.cells;have gQ:=BQ.cells;go_wp2_with fail;refine FT.wp_region_flow 7 (.run 0 (.run 1 (.run 2 (.run 3 (.run 4 (.alt 5 (.run 6 (.tail)) .stop)))))) rfl (by kernel_rfl) (λ_ x _ _ _ h=>by cases x <;> exact h) (C:=λw'=>∃ p:Regrown,w'=grow (redrawn w10 p.d) p.os) rgB (tb _) ?_
  iterate 5 (refine FT.flow_run rfl (λK hK=>?_);go_simp;first | (refine hK _ ?_;clear hK K) | (apply Exists.intro;refine ⟨λ_=>?_,hK _ ?_⟩;rotate_left;clear hK K))
  refine FT.flow_at (on_of _) rfl trivial (λv1 hwE K hK=>?_);have hz1:Below w10 w10 v1:=hwE;go_simp;refine (cS v1 (U2.C.mesh.ee hz1) (U2.C.map.ee hz1)).mono ?_;rintro e u1 ⟨ax,cx,rfl,_,hb⟩;have hz2:Below w10 w10 u1:=(upB hz1 hb);clear hb hwE hz1;go_simp;refine hK _ _ (regrown_of_below hz2) ?_;clear hK K
  iterate 1 (refine FT.flow_run rfl (λK hK=>?_);go_simp;first | (refine hK _ ?_;clear hK K) | (apply Exists.intro;refine ⟨λ_=>?_,hK _ ?_⟩;rotate_left;clear hK K))
  intro w11 hw11;have hz:Below w10 w10 w11:=hz2.trans (Below.mono hw11 hz2.size);clear hw11 hz2 cS gC gQ;replace U2:=U2.ee hz;replace BQ:=BQ.ee hz;replace hw:=upB hw hz;clear hz;simp only [dP1,dP0];have HG:=hdd (gv_facts HX.o HLD.o HSt.o hT HOB.o);clear HSt hT;generalize L.length=l0 at *
  generalize hl1:L'.length=l1 at HG
  generalize hd1:D'.length=d1 at HG
  generalize D.length=d0 at *
  have HL1:=hdd hl1;have HD1:=hdd hd1;have HE':=hdd (show E'.length=3 * l1 by rw [U2.S.inv.good.len,hl1]);clear hl1 hd1;by_cases hc:sl=0
  ·have q0:decide ((0:Int) < (sl:Int))=false:=by simp;omega
   have HG2:=hdd (HG.o.2 hc);clear HG;obtain ⟨hr0,h2a,h2b,h3,h4⟩:=HG2.o;subst hr0;have hla:l1<=54:=by
    by_cases ha:atRim s s x
    ·have:=h2a ha;have:=HLD.o;rw [w64] at *;omega
    ·have:=h2b ha;have:=HLD.o;rw [w64] at *;omega
   have HA:=hdd (gv_area HS.o.1 HS.o.2 U2.S.inv);have hE:E'.length<=1000000:=by rw [HE'.o];omega
   have ct:=λW U0 H=>Zf m2 b2 E' hE W U0 H;have hnT:(srt cmpT (heads (λ_=>true) E')).length<=1000:=by rw [(zS _).length_eq];have:=yc (λ_=>true) E';have:=HE'.o;omega
   generalize srt cmpT (heads (λ_=>true) E')=T6 at *
   generalize hnT2:T6.length=nT at ct hnT
   have HNT:=hdd hnT2;have HNM:=hdd hnT;have HLA:=hdd (show l1<=1000000 by omega);clear hnT hnT2 hE hla HG2;obtain ⟨v0,v1',v2',v3⟩:=BQ.f;rcases rim_five s x with ⟨t2,q1⟩ | ⟨t2,q1,q2⟩ | ⟨t2,q1,q2,q3⟩ | ⟨t2,q1,q2,q3,q4⟩ | ⟨t2,q1,q2,q3,q4⟩ <;> cases ob
   all_goals
    first | have hM:=h2a t2 | have hM:=h2b t2
    first | have hN:=h3 rfl | have hN:=h4 rfl
    have HM:=hdd hM;have HN2:=hdd hN;clear h2a h2b h3 h4 hM hN t2;go_wp2_with fail;refine (ct _ U2.S.box U2.S.map).mono ?_;rintro e w12 ⟨a6,c6,rfl,R6,hb⟩;replace U2:=U2.ee hb;replace hw:=upB hw hb;clear hb v0 v1' v2' v3 ct BQ;go_wp2_with fail
    go_loopw [20,22] (λu i wr=>∃ k:Nat,k<=nT/\u=.int .i64 (sumA (T6.take k))/\i=.int .i64 k/\Below w12 w12 wr) (λ_ i _=>nT - (intOf i).toNat)
    case atStart=>exact ⟨0,JZ _,rfl,rfl,Below.refl _ _⟩
    case round=>
     obtain ⟨k,hk,rfl,rfl,hz⟩:=hrel;by_cases hlt:k < nT
     ·obtain ⟨ad,A1,ea,eA,R1⟩:=(R6.ee hz).six (j:=k) (by rw [HNT.o];exact hlt);have cw:=rtwi_any (T6[k]'(by rw [HNT.o];exact hlt));have wS:=gv_sum HA.o.1 (by rw [HNT.o];exact HNM.o) (k:=k) (by rw [HNT.o];exact hlt);have wN:=KJ (k:=k) (by have:=HNM.o;omega);have p0:(k:Int) < (nT:Int):=by omega
      have HLT:=hdd hlt;generalize T6[k]'(by rw [HNT.o];exact hlt)=U at *
      generalize twi U=Z at *
      generalize sumA (T6.take k)=S at *
      generalize hs2:sumA (T6.take (k+1))=S2 at wS
      have HS2:=hdd hs2;clear hs2 hk;subst ea;obtain ⟨f0,f1,f2,f3,f4,f5,f6⟩:=R1.f;go_wp2_with fail;refine (cw _).mono ?_;rintro e w13 ⟨rfl,hb⟩;have hz2:=(upB hz hb);clear hb f0 f1 f2 f3 f4 f5 f6 hz R1 cw;go_wp2_with fail
      go_roundw
      case rel=>exact ⟨k+1,HLT.o,by rw [HS2.o,wS],by rw [wN],hz2⟩
      case measure=>exact KK HLT.o wN
     ·obtain rfl:nT=k:=by omega
      have hlt2:¬ (nT:Int) < (nT:Int):=by omega
      have e1:sumA (T6.take nT)=2 * s * s:=by rw [JM (by rw [HNT.o];exact JA _)];exact HA.o.2.1
      have e2:=HA.o.2.2.1;have e3:=HA.o.2.2.2;rw [e1];have hM:=HM.o;obtain ⟨hN,hN0⟩:=HN2.o;replace U2:=U2.ee hz;replace hw:=upB hw hz;clear hz R6 hlt;go_wp2_with fail;refine (uM m2 b2 E' l1 HE' HLA.o _ U2.S.box U2.S.map).mono ?_;rintro e w14 ⟨rfl,hb⟩;replace U2:=U2.ee hb;replace hw:=upB hw hb;clear hb;go_wp2_with fail;obtain ⟨aS,cS,hvS,SR⟩:=U2.S.set.rd;have cN:=Yy sb aS cS D'.length D' _ SR;rw [HD1.o] at cN;refine cN.mono ?_;rintro e w15 ⟨rfl,hb⟩;replace hw:=upB hw hb;clear hb hvS SR cN;go_wp2_with fail;refine (xo _).mono ?_;rintro e w16 ⟨rfl,hb⟩;replace hw:=upB hw hb;clear hb;go_wp2
      go_ret
      exact ⟨rfl,hw⟩
  ·have q0:decide ((0:Int) < (sl:Int))=true:=by simp;omega
   obtain ⟨hr5,h1⟩:=HG.o.1 hc;have hla:l1<=1000000:=by have:=HLD.o;omega
   subst hr5 h1;clear HG;go_wp2_with fail;refine (uM m2 b2 E' l1 HE' hla _ U2.S.box U2.S.map).mono ?_;rintro e w12 ⟨rfl,hb⟩;replace hw:=upB hw hb;clear hb;go_wp2_with fail;refine (xo _).mono ?_;rintro e w13 ⟨rfl,hb⟩;replace hw:=upB hw hb;clear hb;go_wp2
   go_ret
   exact ⟨rfl,hw⟩
end
end Go.Proofs.YtmpfadapbbjbkaaGreat
