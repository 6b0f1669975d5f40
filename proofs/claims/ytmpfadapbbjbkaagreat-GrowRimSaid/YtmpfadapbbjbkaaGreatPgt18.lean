import Derived.Test.YtmpfadapbbjbkaaGreatPgt17
set_option maxRecDepth 100000
set_option maxHeartbeats 8000000
set_option linter.all false
namespace Go.Proofs.YtmpfadapbbjbkaaGreat
open _root_.Go.Proofs.Tryz
section
open Go.RowKit Go.Sort
attribute [local go_sem] rOper rAt rUpon cell_set sg_i64 sg_u64 alloc_cell alloc_frozen
attribute [local go_sem 10000] pt_eql pt_neq tri_eql
attribute [local irreducible] rWalk
theorem gr_no (s:Int) (a0 a2:Option Addr) (n q c0 c2:Nat) (N:Int) (hf:(decide (1<=s) && (decide (s<=40) && (decide (n<=25) && decide (q<=12))))=false) (w:World):Calls prog 8 #[s,.slice a0 n c0,.slice a2 q c2,N] w (Rt w (.bool true)):=by
 have cf:=λW=>ub s a0 a2 n q c0 c2 W;rw [hf] at cf;clear hf
 go_enter func8,ntmps8
 go_wp2_with fail;refine (cf _).mono ?_;rintro e w1 ⟨rfl,hb⟩;go_wp2_with fail;refine (xo _).mono ?_;rintro e w2 ⟨rfl,hb2⟩;have hw:=(upB hb hb2);go_wp2
 go_ret
 exact ⟨rfl,hw⟩
theorem gr_yes (s:Int) (hs:0 < s) (hs2:s<=40) (a0:Option Addr) (n c0:Nat) (hn:n<=25) (P:List Int) (hP:Hi (P.length=n)) (a2:Option Addr) (q c2:Nat) (hq:q<=12) (Q:List Pt) (hQ:Hi (Q.length=q)) (N:Int) (w:World) (h0:RowAt cI 1 w a0 P) (hq0:RowAt cP 2 w a2 Q):Calls prog 8 #[s,.slice a0 n c0,.slice a2 q c2,N] w (Rt w (.bool true)):=by
 have cf:=λW=>ub s a0 a2 n q c0 c2 W;rw [show (decide (1<=s) && (decide (s<=40) && (decide (n<=25) && decide (q<=12))))=true by simp;omega] at cf;have csp:=vu s N hs (by omega);have HX:=hdd (YS hs N);generalize spt s N=x at csp HX
 have HS:=hdd (show 0 < s/\s<=40 from ⟨hs,hs2⟩);have HN:=hdd hn;have HQQ:=hdd hq;clear hs hs2 hn hq
 go_enter func8,ntmps8
 go_wp2_with fail;refine (cf _).mono ?_;rintro e w1 ⟨rfl,hw⟩;clear cf;go_wp2_with fail;refine (jl s HS.o.1 (by have:=HS.o.2;omega) a0 a2 n q c0 c2 P hP (by have:=HN.o;omega) Q hQ (by have:=HQQ.o;omega) w1 (h0.ee hw) (hq0.ee hw)).mono ?_;rintro e w2 hpost;obtain ⟨m2,b2,sb,v,cb,mb,b,db,vd,E,E1,L,D,rfl,U0,hL,hD,hb⟩:=built9_two hpost;have HLD:=hdd (show L.length<=52/\D.length<=6000 by have:=HN.o;have:=hP.o;omega);have HW1:=hdd hw.size;replace hw:=upB hw hb;generalize w1.heap.size=n1 at *
 clear hb hL hD h0 hq0 hpost;go_wp2_with fail;refine (csp _).mono ?_;rintro e w3 ⟨rfl,hb⟩;replace U0:=U0.ee hb;replace hw:=upB hw hb;clear hb csp;go_wp2_with fail;refine zG λW4 hW=>?_;obtain ⟨bq,hbq⟩:∃ b,w3.heap.size=b:=⟨_,rfl⟩;rw [hbq];have BQ:Box W4 bq [x.x,x.y] 26:=by rw [hW];exact Box.new hbq.symm
 have hb:Below w3 w3 W4:=by rw [hW];go_grown
 have hAq:=U0.S.apt (k:=bq) (by omega);replace U0:=U0.ee hb;replace hw:=upB hw hb;clear hW hb hbq;obtain ⟨aW,cW0,hvW,Dr,_⟩:=U0.C.doc.rd;have cO:=λW R=>jz db aW cW0 D.length D x W R;obtain ⟨V,ob,hV,hOb,hVX⟩:=onV_some (D.find? (onD x));rw [hV] at cO;have HOB:=hdd hOb;have HVX:=hdd hVX;clear hV hOb hvW hVX;have gC:=U0.C.box.cells;have gQ:=BQ.cells;refine FT.wp_region_flow 11 (.run 0 (.run 1 (.run 2 (.run 3 (.run 4 (.alt 5 (.run 6 (.run 7 (.run 8 (.alt 9 (.alt 10 (.tail) .stop) .stop)))) (.alt 9 (.alt 5 (.run 6 (.run 7 (.run 8 (.alt 10 (.tail) .stop)))) .stop) .stop))))))) rfl (by kernel_rfl) (λ_ x _ _ _ h=>by cases x <;> exact h) (C:=λw'=>∃ p:Regrown,w'=grow (redrawn W4 p.d) p.os) rgB (tb _) ?_
 iterate 5 (refine FT.flow_run rfl (λK hK=>?_);go_simp;first | (refine hK _ ?_;clear hK K) | (apply Exists.intro;refine ⟨λ_=>?_,hK _ ?_⟩;rotate_left;clear hK K))
 refine FT.flow_at (on_of _) rfl ?y9 (λv1 hwE K hK=>?y5)
 case' y5=>
  have hz1:Below W4 W4 v1:=hwE;go_simp;refine (cO v1 (Dr.ee hz1)).mono ?_;rintro e u1 ⟨rfl,hb⟩;have hz2:Below W4 W4 u1:=(upB hz1 hb);clear hb hwE hz1;go_simp;refine hK _ _ (regrown_of_below hz2) ?_;clear hK K
  iterate 3 (refine FT.flow_run rfl (λK hK=>?_);go_simp;first | (refine hK _ ?_;clear hK K) | (apply Exists.intro;refine ⟨λ_=>?_,hK _ ?_⟩;rotate_left;clear hK K))
  refine FT.flow_at (on_of _) rfl trivial (λv2 hwE K hK=>?_);have hz3:Below W4 W4 v2:=hz2.trans (Below.mono hwE hz2.size);clear hwE hz2;go_simp;have hz4:=hz3.alloc hz3.size (.cells #[(),(),(),(),()] 57);obtain ⟨bv,hbv0⟩:∃ bv,v2.heap.size=bv:=⟨_,rfl⟩;have BV:Box (v2.alloc (.cells #[(),(),(),(),()] 57)) bv [(),(),(),(),()] 57:=by rw [<-hbv0];exact Box.new rfl
  have hbv:W4.heap.size<=bv:=by rw [<-hbv0];exact hz3.size
  refine hK _ _ (regrown_of_below hz4) ?_;clear hK K hz3;rw [hbv0];clear hbv0;refine FT.flow_at (on_of _) rfl trivial (λw6 hw6 K hK=>?_);have hb6:Below W4 W4 w6:=hz4.trans (Below.mono hw6 hz4.size);have BV6:=BV.ee hw6;clear BV hw6 hz4;obtain ⟨v0,v1',v2',v3⟩:=BV6.f;go_simp;have HB7:Below W4 W4 (((((w6.setCell ⟨bv,0,none⟩ (.int .i64 V.A.x)).setCell ⟨bv,1,none⟩ (.int .i64 V.A.y)).setCell ⟨bv,2,none⟩ (.int .i64 V.B.x)).setCell ⟨bv,3,none⟩ (.int .i64 V.B.y)).setCell ⟨bv,4,none⟩ (.int .i64 V.K)):=by have hl:=hb6.size;go_grown
  have BV7:Box (((((w6.setCell ⟨bv,0,none⟩ (.int .i64 V.A.x)).setCell ⟨bv,1,none⟩ (.int .i64 V.A.y)).setCell ⟨bv,2,none⟩ (.int .i64 V.B.x)).setCell ⟨bv,3,none⟩ (.int .i64 V.B.y)).setCell ⟨bv,4,none⟩ (.int .i64 V.K)) bv [V.A.x,V.A.y,V.B.x,V.B.y,V.K] 57:=(((((BV6.set 0 (.int .i64 V.A.x)).set 1 (.int .i64 V.A.y)).set 2 (.int .i64 V.B.x)).set 3 (.int .i64 V.B.y)).set 4 (.int .i64 V.K));refine hK _ _ (regrown_of_below HB7) ?_;clear hK K v0 v1' v2' v3 hb6 BV6;generalize (((((w6.setCell ⟨bv,0,none⟩ (.int .i64 V.A.x)).setCell ⟨bv,1,none⟩ (.int .i64 V.A.y)).setCell ⟨bv,2,none⟩ (.int .i64 V.B.x)).setCell ⟨bv,3,none⟩ (.int .i64 V.B.y)).setCell ⟨bv,4,none⟩ (.int .i64 V.K))=w7 at *
  intro wz hwz;have hz:Below W4 W4 wz:=HB7.trans (Below.mono hwz HB7.size);have BV:=BV7.ee hwz;clear HB7 BV7 hwz
 case' y9=>
  refine FT.flow_at (on_of _) rfl trivial (λv2 hwE K hK=>?_);have hz3:Below W4 W4 v2:=hwE;clear hwE;go_simp;have hz4:=hz3.alloc hz3.size (.cells #[(),(),(),(),()] 57);obtain ⟨bv,hbv0⟩:∃ bv,v2.heap.size=bv:=⟨_,rfl⟩;have BV:Box (v2.alloc (.cells #[(),(),(),(),()] 57)) bv [(),(),(),(),()] 57:=by rw [<-hbv0];exact Box.new rfl
  have hbv:W4.heap.size<=bv:=by rw [<-hbv0];exact hz3.size
  refine hK _ _ (regrown_of_below hz4) ?_;clear hK K hz3;rw [hbv0];clear hbv0;refine FT.flow_at (on_of _) rfl trivial (λv1 hwE K hK=>?_);have hz1:Below W4 W4 v1:=hz4.trans (Below.mono hwE hz4.size);replace BV:=BV.ee hwE;clear hwE hz4;go_simp;refine (cO v1 (Dr.ee hz1)).mono ?_;rintro e u1 ⟨rfl,hb⟩;have hz2:Below W4 W4 u1:=(upB hz1 hb);replace BV:=BV.ee hb;clear hb hz1;go_simp;refine hK _ _ (regrown_of_below hz2) ?_;clear hK K
  iterate 3 (refine FT.flow_run rfl (λK hK=>?_);go_simp;first | (refine hK _ ?_;clear hK K) | (apply Exists.intro;refine ⟨λ_=>?_,hK _ ?_⟩;rotate_left;clear hK K))
  refine FT.flow_at (on_of _) rfl trivial (λw6 hw6 K hK=>?_);have hb6:Below W4 W4 w6:=hz2.trans (Below.mono hw6 hz2.size);have BV6:=BV.ee hw6;clear BV hw6 hz2;obtain ⟨v0,v1',v2',v3⟩:=BV6.f;go_simp;have HB7:Below W4 W4 (((((w6.setCell ⟨bv,0,none⟩ (.int .i64 V.A.x)).setCell ⟨bv,1,none⟩ (.int .i64 V.A.y)).setCell ⟨bv,2,none⟩ (.int .i64 V.B.x)).setCell ⟨bv,3,none⟩ (.int .i64 V.B.y)).setCell ⟨bv,4,none⟩ (.int .i64 V.K)):=by have hl:=hb6.size;go_grown
  have BV7:Box (((((w6.setCell ⟨bv,0,none⟩ (.int .i64 V.A.x)).setCell ⟨bv,1,none⟩ (.int .i64 V.A.y)).setCell ⟨bv,2,none⟩ (.int .i64 V.B.x)).setCell ⟨bv,3,none⟩ (.int .i64 V.B.y)).setCell ⟨bv,4,none⟩ (.int .i64 V.K)) bv [V.A.x,V.A.y,V.B.x,V.B.y,V.K] 57:=(((((BV6.set 0 (.int .i64 V.A.x)).set 1 (.int .i64 V.A.y)).set 2 (.int .i64 V.B.x)).set 3 (.int .i64 V.B.y)).set 4 (.int .i64 V.K));refine hK _ _ (regrown_of_below HB7) ?_;clear hK K v0 v1' v2' v3 hb6 BV6;generalize (((((w6.setCell ⟨bv,0,none⟩ (.int .i64 V.A.x)).setCell ⟨bv,1,none⟩ (.int .i64 V.A.y)).setCell ⟨bv,2,none⟩ (.int .i64 V.B.x)).setCell ⟨bv,3,none⟩ (.int .i64 V.B.y)).setCell ⟨bv,4,none⟩ (.int .i64 V.K))=w7 at *
  intro wz hwz;have hz:Below W4 W4 wz:=HB7.trans (Below.mono hwz HB7.size);have BV:=BV7.ee hwz;clear HB7 BV7 hwz
 all_goals
  have hAv:=U0.S.apt (k:=bv) hbv;clear cO gC gQ Dr hbv;replace U0:=U0.ee hz;replace BQ:=BQ.ee hz;replace hw:=upB hw hz;clear hz;simp only [dP1,dP0];obtain ⟨aS,cS,hvS,SR⟩:=U0.S.set.rd;go_wp2_with fail;refine (all_any sb aS cS D.length D _ SR).mono ?_;rintro e w8 ⟨vA,rfl,hrA,hb⟩;have hAr:∀ g,vA.ownBlock=some g->Apt b2 sb v g:=λg hg=>U0.S.apt (hrA.lt g hg).1;replace U0:=U0.ee hb;obtain ⟨BQ,BV,hw,-⟩:=qX2 BQ BV hw hb;clear hb hvS SR;obtain ⟨v0,v1',v2',v3⟩:=BQ.f;have hn9:n1<=w8.heap.size:=JQ U0.A.lo.2.2.1 (UJ U0.C.map.lt);go_wp2_with fail;clear v0 v1' v2' v3;refine (gstep s HS.o.1 (by have:=HS.o.2;omega) U0.S (by have:=HLD.o;omega) (by have:=HLD.o;omega) x).mono ?_;rintro e w10 ⟨r,E',L',D',v',rfl,S',hT,F9,f9⟩;replace BQ:=hAq.box BQ F9;replace BV:=hAv.box BV F9;replace hrA:=F9.row hrA (λg hg k=>by
   rcases k with k | k
   ·exact (hAr g hg).1 k
   ·exact (hAr g hg).2 k)
  replace hw:Below w w w10:=hw.trans (F9.below (λk e=>by
   have:=HW1.o;rcases e with rfl | e
   ·have:=U0.A.lo.1;omega
   ·have:=U0.A.lo.2.1 k e;omega) hw.size)
  have U2:=U0.prog hn9 S' F9 f9;have HG:=hdd (gr_facts HX.o HLD.o U0.S.inv U2.S.inv hT);have HX2:Hi (ob=true->D.find? (onD x)=some V):=hdd (λe=>by
   have h:=HOB.o;cases hf:D.find? (onD x) with
   | none=>rw [hf,e] at h;cases h
   | some X=>rw [HVX.o X hf])
  have HX0:Hi (ob=false->D.find? (onD x)=none):=hdd (λe=>by
   have h:=HOB.o;cases hf:D.find? (onD x) with
   | none=>rfl
   | some X=>rw [hf,e] at h;cases h)
  clear U0 S' F9 f9 hn9 hAq hAv hAr hT HOB HVX;obtain ⟨xA,yA,hvA2,rA,_⟩:=hrA.row;subst hvA2;clear hrA;cases ob
  case false=>
   have hX0:D.find? (onD x)=none:=HX0.o rfl;obtain ⟨hr,hD⟩:=HG.o.1 hX0;subst hD;clear HG HX0 HX2 hX0 BV BQ;have hDL:D'.length<=1000000:=by have:=HLD.o;omega
   obtain ⟨aT,cT2,hvT,ST⟩:=U2.S.set.rd;clear hvT;rcases hr with hr | hr <;> subst hr
   all_goals
    go_wp2_with fail;refine (all_any sb aT cT2 D'.length D' _ ST).mono ?_;rintro e w12 ⟨v70,rfl,hr7,hb⟩;obtain ⟨x7,y7,rfl,r7,_⟩:=hr7.row;have r8:=rA.ee hb;have hw2:=(upB hw hb);clear hb hr7 hw;go_wp2_with fail;refine (alike_W x7 xA y7 yA D' D' _ r7 r8 hDL).mono ?_;rintro e w13 ⟨rfl,hb⟩;have hw:=(upB hw2 hb);clear hb r7 r8 hw2;go_wp2_with fail;refine (xo _).mono ?_;rintro e w14 ⟨rfl,hb⟩;replace hw:=upB hw hb;clear hb;go_wp2
    go_ret
    exact ⟨rfl,hw⟩
  case true=>
   obtain ⟨hr0,h1,h2,h3,h4,h4i⟩:=HG.o.2 V (HX2.o rfl);subst hr0;obtain ⟨aT,cT2,hvT,ST⟩:=U2.S.set.rd;have cK1:=λW S=>qO sb aT cT2 D'.length D' V.A V.B W S;have cK2:=λW S=>qO sb aT cT2 D'.length D' V.A x W S;have cK3:=λW S=>qO sb aT cT2 D'.length D' x V.B W S;have cLe:=λW S=>Yy sb aT cT2 D'.length D' W S;rw [h1] at cK1;rw [h2] at cK2;rw [h3] at cK3;clear h1 h2 h3 hvT HG HX2;have gV:=BV.cells;have gQ:=BQ.cells;go_wp2_with fail;refine FT.wp_region_flow 42 (.run 0 (.run 1 (.run 2 (.run 3 (.run 4 (.run 5 (.run 6 (.run 7 (.alt 8 (.run 9 (.run 10 (.run 11 (.run 12 (.run 13 (.run 14 (.run 15 (.run 17 (.run 18 (.alt 16 (.run 19 (.run 20 (.run 21 (.run 22 (.run 23 (.run 24 (.run 25 (.run 27 (.run 28 (.alt 26 (.run 29 (.run 30 (.run 31 (.run 32 (.run 34 (.run 35 (.run 36 (.alt 33 (.run 37 (.run 38 (.run 39 (.alt 40 (.run 41 (.tail)) .stop)))) .stop)))))))) .stop)))))))))) .stop)))))))))) .stop))))))))) rfl (by kernel_rfl) (λ_ x _ _ _ h=>by cases x <;> exact h) (C:=λw'=>∃ p:Regrown,w'=grow (redrawn w10 p.d) p.os) rgB (tb _) ?_
   iterate 8 (refine FT.flow_run rfl (λK hK=>?_);go_simp;first | (refine hK _ ?_;clear hK K) | (apply Exists.intro;refine ⟨λ_=>?_,hK _ ?_⟩;rotate_left;clear hK K))
   refine FT.flow_at (on_of _) rfl trivial (λv1 hwE K hK=>?_);have hy1:Below w10 w10 v1:=hwE;go_simp;refine (cK1 v1 (ST.ee hy1)).mono ?_;rintro e u1 ⟨rfl,hb⟩;have hz1:Below w10 w10 u1:=(upB hy1 hb);clear hwE hb hy1;go_simp;refine hK _ _ (regrown_of_below hz1) ?_;clear hK K
   iterate 9 (refine FT.flow_run rfl (λK hK=>?_);go_simp;first | (refine hK _ ?_;clear hK K) | (apply Exists.intro;refine ⟨λ_=>?_,hK _ ?_⟩;rotate_left;clear hK K))
   refine FT.flow_at (on_of _) rfl trivial (λv2 hwE K hK=>?_);have hy2:Below w10 w10 v2:=hz1.trans (Below.mono hwE hz1.size);go_simp;refine (cK2 v2 (ST.ee hy2)).mono ?_;rintro e u2 ⟨rfl,hb⟩;have hz2:Below w10 w10 u2:=(upB hy2 hb);clear hwE hb hy2 hz1;go_simp;refine hK _ _ (regrown_of_below hz2) ?_;clear hK K
   iterate 9 (refine FT.flow_run rfl (λK hK=>?_);go_simp;first | (refine hK _ ?_;clear hK K) | (apply Exists.intro;refine ⟨λ_=>?_,hK _ ?_⟩;rotate_left;clear hK K))
   refine FT.flow_at (on_of _) rfl trivial (λv3 hwE K hK=>?_);have hy3:Below w10 w10 v3:=hz2.trans (Below.mono hwE hz2.size);go_simp;refine (cK3 v3 (ST.ee hy3)).mono ?_;rintro e u3 ⟨rfl,hb⟩;have hz3:Below w10 w10 u3:=(upB hy3 hb);clear hwE hb hy3 hz2;go_simp;refine hK _ _ (regrown_of_below hz3) ?_;clear hK K
   iterate 7 (refine FT.flow_run rfl (λK hK=>?_);go_simp;first | (refine hK _ ?_;clear hK K) | (apply Exists.intro;refine ⟨λ_=>?_,hK _ ?_⟩;rotate_left;clear hK K))
   refine FT.flow_at (on_of _) rfl trivial (λv4 hwE K hK=>?_);have hy4:Below w10 w10 v4:=hz3.trans (Below.mono hwE hz3.size);go_simp;refine (cLe v4 (ST.ee hy4)).mono ?_;rintro e u4 ⟨rfl,hb⟩;have hz4:Below w10 w10 u4:=(upB hy4 hb);clear hwE hb hy4 hz3;go_simp;refine hK _ _ (regrown_of_below hz4) ?_;clear hK K
   iterate 3 (refine FT.flow_run rfl (λK hK=>?_);go_simp;first | (refine hK _ ?_;clear hK K) | (apply Exists.intro;refine ⟨λ_=>?_,hK _ ?_⟩;rotate_left;clear hK K))
   refine FT.flow_at (on_of _) rfl trivial (λv5 hwE K hK=>?_);have hy5:Below w10 w10 v5:=hz4.trans (Below.mono hwE hz4.size);go_simp;refine (xo v5).mono ?_;rintro e u5 ⟨rfl,hb⟩;have hz5:Below w10 w10 u5:=(upB hy5 hb);clear hwE hb hy5 hz4;go_simp;refine hK _ _ (regrown_of_below hz5) ?_;clear hK K
   iterate 1 (refine FT.flow_run rfl (λK hK=>?_);go_simp;first | (refine hK _ ?_;clear hK K) | (apply Exists.intro;refine ⟨λ_=>?_,hK _ ?_⟩;rotate_left;clear hK K))
   intro w11 hw11;have hz:=hz5.trans (Below.mono hw11 hz5.size);replace hw:=upB hw hz;clear hz hz5 hw11 gV gQ cK1 cK2 cK3 cLe;simp only [dP1,dP0];go_wp2
   go_ret
   exact ⟨rfl,hw⟩
end
end Go.Proofs.YtmpfadapbbjbkaaGreat
