/- Put together: CdtT, CdtU. -/
import Derived.Test.YtogffkimgmlilaaGreatPfb32
set_option maxRecDepth 100000
set_option maxHeartbeats 8000000
set_option linter.all false
namespace Go.Proofs.YtogffkimgmlilaaGreat
open _root_.Go.Proofs.Tryz
section
open Go.RowKit Go.Sort
attribute [local go_sem] rOper rAt rUpon cell_set sg_i64 sg_u64 alloc_cell alloc_frozen
attribute [local go_sem 10000] pt_eql pt_neq tri_eql
attribute [local irreducible] rWalk
attribute [local go_sem 10000] tri_neq
theorem rflip_n0 (mb b:Nat) (E:Es) (p q:Pt) (hk:okW (p,q)) (h0:getE E (p,q)=none) (w:World) (Bm:Box w mb [.map (some b)] 90) (Hm:HoldsMap eW eT okW w b E):Calls prog 41 #[pt0 mb,p,q] w (Rt w (.int .i64 16)):=by
 have cl:=zAj mb b E p q hk;have cr:=zAj mb b E q p ⟨hk.2,hk.1⟩;rw [lftE_none h0] at cl;generalize lftE E q p=Z at cr
 obtain ⟨Y,y⟩:=Z;dsimp only at cr;clear h0
 go_enter func41,ntmps41
 go_wp2_with fail;refine qE2 fun W1 Bp Bq hw=>?_;refine qC2 (cl _ (Bm.ee hw) (Hm.ee hw)) Bp Bq hw fun w2 Bp Bq hw F_pq=>?_;go_wp2_with fail;clear F_pq;refine zA4 fun W3 hW=>?_;obtain ⟨bks,hbs⟩:∃ b,w2.heap.size=b:=⟨_,rfl⟩;rw [hbs];obtain ⟨lps,lqs,fs,Bs,Bp,Bq,hw⟩:=qM2 hW hbs Bp Bq hw;clear hW hbs;refine qC3 (cr _ (Bm.ee hw) (Hm.ee hw)) Bp Bq Bs hw fun w4 Bp Bq Bs hw F_pqs=>?_;go_wp2
 go_ret
 exact ⟨rfl,by have hl:=hw.size;go_grown⟩
theorem rflip_n1 (mb b:Nat) (E:Es) (p q:Pt) (hk:okW (p,q)) (S:Tri3) (h0:getE E (p,q)=some S) (h1:getE E (q,p)=none) (w:World) (Bm:Box w mb [.map (some b)] 90) (Hm:HoldsMap eW eT okW w b E):Calls prog 41 #[pt0 mb,p,q] w (Rt w (.int .i64 16)):=by
 have cl:=zAj mb b E p q hk;have cr:=zAj mb b E q p ⟨hk.2,hk.1⟩;rw [lftE_some h0] at cl;rw [lftE_none h1] at cr;clear h0 h1
 go_enter func41,ntmps41
 go_wp2_with fail;refine qE2 fun W1 Bp Bq hw=>?_;refine qC2 (cl _ (Bm.ee hw) (Hm.ee hw)) Bp Bq hw fun w2 Bp Bq hw F_pq=>?_;go_wp2_with fail;clear F_pq;refine zA4 fun W3 hW=>?_;obtain ⟨bks,hbs⟩:∃ b,w2.heap.size=b:=⟨_,rfl⟩;rw [hbs];obtain ⟨lps,lqs,fs,Bs,Bp,Bq,hw⟩:=qM2 hW hbs Bp Bq hw;clear hW hbs;refine qC3 (cr _ (Bm.ee hw) (Hm.ee hw)) Bp Bq Bs hw fun w4 Bp Bq Bs hw F_pqs=>?_;go_wp2
 go_ret
 exact ⟨rfl,by have hl:=hw.size;go_grown⟩
theorem rflip_o1 (mb b:Nat) (E:Es) (p q:Pt) (hk:okW (p,q)) (S R:Tri3) (C D:Pt) (h0:getE E (p,q)=some S) (h1:getE E (q,p)=some R) (hC:apx S p q=C) (hD:apx R p q=D) (o1:decide (ori p D C≤0)=true) (w:World) (Bm:Box w mb [.map (some b)] 90) (Hm:HoldsMap eW eT okW w b E):Calls prog 41 #[pt0 mb,p,q] w (Rt w (.int .i64 2)):=by
 have cl:=zAj mb b E p q hk;have cr:=zAj mb b E q p ⟨hk.2,hk.1⟩;rw [lftE_some h0] at cl;rw [lftE_some h1] at cr;clear h0 h1;have ca:=zC2 S p q;have cb:=zC2 R p q;have c1:=zA3 p D C;have c2:=zA3 D q C;rw [hC] at ca;rw [hD] at cb;clear hC hD
 go_enter func41,ntmps41
 go_wp2_with fail;refine qE2 fun W1 Bp Bq hw=>?_;refine qC2 (cl _ (Bm.ee hw) (Hm.ee hw)) Bp Bq hw fun w2 Bp Bq hw F_pq=>?_;go_wp2_with fail;clear F_pq;refine zA4 fun W3 hW=>?_;obtain ⟨bks,hbs⟩:∃ b,w2.heap.size=b:=⟨_,rfl⟩;rw [hbs];obtain ⟨lps,lqs,fs,Bs,Bp,Bq,hw⟩:=qM2 hW hbs Bp Bq hw;clear hW hbs;refine qC3 (cr _ (Bm.ee hw) (Hm.ee hw)) Bp Bq Bs hw fun w4 Bp Bq Bs hw F_pqs=>?_;go_wp2_with fail;clear F_pqs;refine zA1 fun W5 hW=>?_;obtain ⟨bkr,hbr⟩:∃ b,w4.heap.size=b:=⟨_,rfl⟩;rw [hbr];obtain ⟨lpr,lqr,lsr,fr,Br,Bp,Bq,Bs,hw⟩:=qM3 hW hbr Bp Bq Bs hw;clear hW hbr;have g_pqsr:=J4 Bp.cells Bq.cells Bs.cells Br.cells;refine zAq 10 [⟨8,11,54,[(),()]⟩,⟨9,12,54,[(),()]⟩] ?_ (by kernel_rfl) (by decide) (by decide) (by kernel_rfl) (by decide) (C:=fun w'=>∃ p:Regrown,w'=grow (redrawn W5 p.d) p.os) rgB ?_
 ·simp only [jBt];refine ⟨⟨_,rfl,rfl,rfl,rfl,fun ρ W=>by simp [execOp,go_sem]⟩,⟨_,rfl,rfl,rfl,rfl,fun ρ W=>by simp [execOp,go_sem]⟩,fun _ h=>(by cases h)⟩
 simp only [jBf,jCg,jAv,jD0,dropIdx,jC4,jC8,Nat.reduceBEq,Nat.reduceAdd,jCz,jD7,jD8,jBb,jDs,jDf];refine wkx ?_;intro w6 β hL;simp only [putD,jBy,jC0];have qc:=hL.box ⟨8,11,54,[(),()]⟩ (by simp) (by simp);simp only at qc;have qd:=hL.box ⟨9,12,54,[(),()]⟩ (by simp) (by simp);simp only at qd;have ncd:=hL.apart 11 (by simp) 12 (by simp) (by decide);have ndc:=hL.apart 12 (by simp) 11 (by simp) (by decide);have hb:=hL.below;have lp:=Bp.lt;have lq:=Bq.lt;have ls:=Bs.lt;have lr:=Br.lt;clear g_pqsr;replace Bp:=Bp.ee hb;replace Bq:=Bq.ee hb;replace Bs:=Bs.ee hb;replace Br:=Br.ee hb;have hw0:=hw.size;replace hw:=upB hw hb;clear hb hL;generalize β 11=bkc at *
 generalize β 12=bkd at *
 clear β;obtain ⟨fc,Bc⟩:=qc;obtain ⟨fd,Bd⟩:=qd;simp only [Act.put];have Fc:=Bc.f;have Fd:=Bd.f;have Fp:=Bp.f;have Fq:=Bq.f;have Fs:=Bs.f;have Fr:=Br.f;have epbkc:(w.heap.size=bkc)=False:=by simp;omega
 have epbkc':(bkc=w.heap.size)=False:=by simp;omega
 have epbkd:(w.heap.size=bkd)=False:=by simp;omega
 have epbkd':(bkd=w.heap.size)=False:=by simp;omega
 have eqbkc:(w.heap.size+1=bkc)=False:=by simp;omega
 have eqbkc':(bkc=w.heap.size+1)=False:=by simp;omega
 have eqbkd:(w.heap.size+1=bkd)=False:=by simp;omega
 have eqbkd':(bkd=w.heap.size+1)=False:=by simp;omega
 have esbkc:(bks=bkc)=False:=by simp;omega
 have esbkc':(bkc=bks)=False:=by simp;omega
 have esbkd:(bks=bkd)=False:=by simp;omega
 have esbkd':(bkd=bks)=False:=by simp;omega
 have erbkc:(bkr=bkc)=False:=by simp;omega
 have erbkc':(bkc=bkr)=False:=by simp;omega
 have erbkd:(bkr=bkd)=False:=by simp;omega
 have erbkd':(bkd=bkr)=False:=by simp;omega
 have ebkcbkd:(bkc=bkd)=False:=by simp;omega
 have ebkdbkc:(bkd=bkc)=False:=by simp;omega
 go_wp2_with fail;refine zA4 fun W7 hW=>?_;replace Bp:=sto Bp hW;replace Bq:=sto Bq hW;replace Bs:=sto Bs hW;replace Br:=sto Br hW;replace Bc:=sto Bc hW;replace Bd:=sto Bd hW;replace hw:=stw hw hW;clear Fc Fd;clear Fp Fq Fs Fr epbkc epbkc' epbkd epbkd' eqbkc eqbkc' eqbkd eqbkd' esbkc esbkc' esbkd esbkd' erbkc erbkc' erbkd erbkd' ebkcbkd ebkdbkc;clear hW;refine qK6 (c1 _) Bp Bq Bs Br Bc Bd hw fun w8 Bp Bq Bs Br Bc Bd hw=>?_;have Fp:=Bp.f;have Fq:=Bq.f;have Fs:=Bs.f;have Fr:=Br.f;have Fc:=Bc.f;have Fd:=Bd.f;go_wp2
 go_ret
 exact ⟨rfl,by have hl:=hw.size;go_grown⟩
theorem rflip_o2 (mb b:Nat) (E:Es) (p q:Pt) (hk:okW (p,q)) (S R:Tri3) (C D:Pt) (h0:getE E (p,q)=some S) (h1:getE E (q,p)=some R) (hC:apx S p q=C) (hD:apx R p q=D) (o1:decide (ori p D C≤0)=false) (o2:decide (ori D q C≤0)=true) (w:World) (Bm:Box w mb [.map (some b)] 90) (Hm:HoldsMap eW eT okW w b E):Calls prog 41 #[pt0 mb,p,q] w (Rt w (.int .i64 2)):=by
 have cl:=zAj mb b E p q hk;have cr:=zAj mb b E q p ⟨hk.2,hk.1⟩;rw [lftE_some h0] at cl;rw [lftE_some h1] at cr;clear h0 h1;have ca:=zC2 S p q;have cb:=zC2 R p q;have c1:=zA3 p D C;have c2:=zA3 D q C;rw [hC] at ca;rw [hD] at cb;clear hC hD
 go_enter func41,ntmps41
 go_wp2_with fail;refine qE2 fun W1 Bp Bq hw=>?_;refine qC2 (cl _ (Bm.ee hw) (Hm.ee hw)) Bp Bq hw fun w2 Bp Bq hw F_pq=>?_;go_wp2_with fail;clear F_pq;refine zA4 fun W3 hW=>?_;obtain ⟨bks,hbs⟩:∃ b,w2.heap.size=b:=⟨_,rfl⟩;rw [hbs];obtain ⟨lps,lqs,fs,Bs,Bp,Bq,hw⟩:=qM2 hW hbs Bp Bq hw;clear hW hbs;refine qC3 (cr _ (Bm.ee hw) (Hm.ee hw)) Bp Bq Bs hw fun w4 Bp Bq Bs hw F_pqs=>?_;go_wp2_with fail;clear F_pqs;refine zA1 fun W5 hW=>?_;obtain ⟨bkr,hbr⟩:∃ b,w4.heap.size=b:=⟨_,rfl⟩;rw [hbr];obtain ⟨lpr,lqr,lsr,fr,Br,Bp,Bq,Bs,hw⟩:=qM3 hW hbr Bp Bq Bs hw;clear hW hbr;have g_pqsr:=J4 Bp.cells Bq.cells Bs.cells Br.cells;refine zAq 10 [⟨8,11,54,[(),()]⟩,⟨9,12,54,[(),()]⟩] ?_ (by kernel_rfl) (by decide) (by decide) (by kernel_rfl) (by decide) (C:=fun w'=>∃ p:Regrown,w'=grow (redrawn W5 p.d) p.os) rgB ?_
 ·simp only [jBt];refine ⟨⟨_,rfl,rfl,rfl,rfl,fun ρ W=>by simp [execOp,go_sem]⟩,⟨_,rfl,rfl,rfl,rfl,fun ρ W=>by simp [execOp,go_sem]⟩,fun _ h=>(by cases h)⟩
 simp only [jBf,jCg,jAv,jD0,dropIdx,jC4,jC8,Nat.reduceBEq,Nat.reduceAdd,jCz,jD7,jD8,jBb,jDs,jDf];refine wkx ?_;intro w6 β hL;simp only [putD,jBy,jC0];have qc:=hL.box ⟨8,11,54,[(),()]⟩ (by simp) (by simp);simp only at qc;have qd:=hL.box ⟨9,12,54,[(),()]⟩ (by simp) (by simp);simp only at qd;have ncd:=hL.apart 11 (by simp) 12 (by simp) (by decide);have ndc:=hL.apart 12 (by simp) 11 (by simp) (by decide);have hb:=hL.below;have lp:=Bp.lt;have lq:=Bq.lt;have ls:=Bs.lt;have lr:=Br.lt;clear g_pqsr;replace Bp:=Bp.ee hb;replace Bq:=Bq.ee hb;replace Bs:=Bs.ee hb;replace Br:=Br.ee hb;have hw0:=hw.size;replace hw:=upB hw hb;clear hb hL;generalize β 11=bkc at *
 generalize β 12=bkd at *
 clear β;obtain ⟨fc,Bc⟩:=qc;obtain ⟨fd,Bd⟩:=qd;simp only [Act.put];have Fc:=Bc.f;have Fd:=Bd.f;have Fp:=Bp.f;have Fq:=Bq.f;have Fs:=Bs.f;have Fr:=Br.f;have epbkc:(w.heap.size=bkc)=False:=by simp;omega
 have epbkc':(bkc=w.heap.size)=False:=by simp;omega
 have epbkd:(w.heap.size=bkd)=False:=by simp;omega
 have epbkd':(bkd=w.heap.size)=False:=by simp;omega
 have eqbkc:(w.heap.size+1=bkc)=False:=by simp;omega
 have eqbkc':(bkc=w.heap.size+1)=False:=by simp;omega
 have eqbkd:(w.heap.size+1=bkd)=False:=by simp;omega
 have eqbkd':(bkd=w.heap.size+1)=False:=by simp;omega
 have esbkc:(bks=bkc)=False:=by simp;omega
 have esbkc':(bkc=bks)=False:=by simp;omega
 have esbkd:(bks=bkd)=False:=by simp;omega
 have esbkd':(bkd=bks)=False:=by simp;omega
 have erbkc:(bkr=bkc)=False:=by simp;omega
 have erbkc':(bkc=bkr)=False:=by simp;omega
 have erbkd:(bkr=bkd)=False:=by simp;omega
 have erbkd':(bkd=bkr)=False:=by simp;omega
 have ebkcbkd:(bkc=bkd)=False:=by simp;omega
 have ebkdbkc:(bkd=bkc)=False:=by simp;omega
 go_wp2_with fail;refine zA4 fun W7 hW=>?_;replace Bp:=sto Bp hW;replace Bq:=sto Bq hW;replace Bs:=sto Bs hW;replace Br:=sto Br hW;replace Bc:=sto Bc hW;replace Bd:=sto Bd hW;replace hw:=stw hw hW;clear Fc Fd;clear Fp Fq Fs Fr epbkc epbkc' epbkd epbkd' eqbkc eqbkc' eqbkd eqbkd' esbkc esbkc' esbkd esbkd' erbkc erbkc' erbkd erbkd' ebkcbkd ebkdbkc;clear hW;refine qK6 (c1 _) Bp Bq Bs Br Bc Bd hw fun w8 Bp Bq Bs Br Bc Bd hw=>?_;have Fp:=Bp.f;have Fq:=Bq.f;have Fs:=Bs.f;have Fr:=Br.f;have Fc:=Bc.f;have Fd:=Bd.f;go_wp2_with fail;clear Fp Fq Fs Fr Fc Fd;refine qK6 (c2 _) Bp Bq Bs Br Bc Bd hw fun w9 Bp Bq Bs Br Bc Bd hw=>?_;have Fp:=Bp.f;have Fq:=Bq.f;have Fs:=Bs.f;have Fr:=Br.f;have Fc:=Bc.f;have Fd:=Bd.f;go_wp2
 go_ret
 exact ⟨rfl,by have hl:=hw.size;go_grown⟩
theorem rflip_c1 (mb b:Nat) (E:Es) (p q:Pt) (hk:okW (p,q)) (S R:Tri3) (C D:Pt) (h0:getE E (p,q)=some S) (h1:getE E (q,p)=some R) (hC:apx S p q=C) (hD:apx R p q=D) (o1:decide (ori p D C≤0)=false) (o2:decide (ori D q C≤0)=false) (hc:okW (C,D)) (O:Tri3) (he:getE E (D,C)=some O) (n1:teq O S=false) (n2:teq O R=false) (w:World) (Bm:Box w mb [.map (some b)] 90) (Hm:HoldsMap eW eT okW w b E):Calls prog 41 #[pt0 mb,p,q] w (Rt w (.int .i64 2)):=by
 have cl:=zAj mb b E p q hk;have cr:=zAj mb b E q p ⟨hk.2,hk.1⟩;rw [lftE_some h0] at cl;rw [lftE_some h1] at cr;clear h0 h1;have ca:=zC2 S p q;have cb:=zC2 R p q;have c1:=zA3 p D C;have c2:=zA3 D q C;rw [hC] at ca;rw [hD] at cb;have cu:=zB4 p D C;have cv:=zB4 D q C;generalize mk p D C=U at *
 generalize mk D q C=V at *
 have ce:=zAj mb b E D C ⟨hc.2,hc.1⟩;have cf:=zAj mb b E C D hc;rw [lftE_some he] at ce;generalize lftE E C D=Z at cf
 obtain ⟨Y,y⟩:=Z;dsimp only at cf;clear hC hD hc he
 go_enter func41,ntmps41
 go_wp2_with fail;refine qE2 fun W1 Bp Bq hw=>?_;refine qC2 (cl _ (Bm.ee hw) (Hm.ee hw)) Bp Bq hw fun w2 Bp Bq hw F_pq=>?_;go_wp2_with fail;clear F_pq;refine zA4 fun W3 hW=>?_;obtain ⟨bks,hbs⟩:∃ b,w2.heap.size=b:=⟨_,rfl⟩;rw [hbs];obtain ⟨lps,lqs,fs,Bs,Bp,Bq,hw⟩:=qM2 hW hbs Bp Bq hw;clear hW hbs;refine qC3 (cr _ (Bm.ee hw) (Hm.ee hw)) Bp Bq Bs hw fun w4 Bp Bq Bs hw F_pqs=>?_;go_wp2_with fail;clear F_pqs;refine zA1 fun W5 hW=>?_;obtain ⟨bkr,hbr⟩:∃ b,w4.heap.size=b:=⟨_,rfl⟩;rw [hbr];obtain ⟨lpr,lqr,lsr,fr,Br,Bp,Bq,Bs,hw⟩:=qM3 hW hbr Bp Bq Bs hw;clear hW hbr;have g_pqsr:=J4 Bp.cells Bq.cells Bs.cells Br.cells;refine zAq 10 [⟨8,11,54,[(),()]⟩,⟨9,12,54,[(),()]⟩] ?_ (by kernel_rfl) (by decide) (by decide) (by kernel_rfl) (by decide) (C:=fun w'=>∃ p:Regrown,w'=grow (redrawn W5 p.d) p.os) rgB ?_
 ·simp only [jBt];refine ⟨⟨_,rfl,rfl,rfl,rfl,fun ρ W=>by simp [execOp,go_sem]⟩,⟨_,rfl,rfl,rfl,rfl,fun ρ W=>by simp [execOp,go_sem]⟩,fun _ h=>(by cases h)⟩
 simp only [jBf,jCg,jAv,jD0,dropIdx,jC4,jC8,Nat.reduceBEq,Nat.reduceAdd,jCz,jD7,jD8,jBb,jDs,jDf];refine wkx ?_;intro w6 β hL;simp only [putD,jBy,jC0];have qc:=hL.box ⟨8,11,54,[(),()]⟩ (by simp) (by simp);simp only at qc;have qd:=hL.box ⟨9,12,54,[(),()]⟩ (by simp) (by simp);simp only at qd;have ncd:=hL.apart 11 (by simp) 12 (by simp) (by decide);have ndc:=hL.apart 12 (by simp) 11 (by simp) (by decide);have hb:=hL.below;have lp:=Bp.lt;have lq:=Bq.lt;have ls:=Bs.lt;have lr:=Br.lt;clear g_pqsr;replace Bp:=Bp.ee hb;replace Bq:=Bq.ee hb;replace Bs:=Bs.ee hb;replace Br:=Br.ee hb;have hw0:=hw.size;replace hw:=upB hw hb;clear hb hL;generalize β 11=bkc at *
 generalize β 12=bkd at *
 clear β;obtain ⟨fc,Bc⟩:=qc;obtain ⟨fd,Bd⟩:=qd;simp only [Act.put];have Fc:=Bc.f;have Fd:=Bd.f;have Fp:=Bp.f;have Fq:=Bq.f;have Fs:=Bs.f;have Fr:=Br.f;have epbkc:(w.heap.size=bkc)=False:=by simp;omega
 have epbkc':(bkc=w.heap.size)=False:=by simp;omega
 have epbkd:(w.heap.size=bkd)=False:=by simp;omega
 have epbkd':(bkd=w.heap.size)=False:=by simp;omega
 have eqbkc:(w.heap.size+1=bkc)=False:=by simp;omega
 have eqbkc':(bkc=w.heap.size+1)=False:=by simp;omega
 have eqbkd:(w.heap.size+1=bkd)=False:=by simp;omega
 have eqbkd':(bkd=w.heap.size+1)=False:=by simp;omega
 have esbkc:(bks=bkc)=False:=by simp;omega
 have esbkc':(bkc=bks)=False:=by simp;omega
 have esbkd:(bks=bkd)=False:=by simp;omega
 have esbkd':(bkd=bks)=False:=by simp;omega
 have erbkc:(bkr=bkc)=False:=by simp;omega
 have erbkc':(bkc=bkr)=False:=by simp;omega
 have erbkd:(bkr=bkd)=False:=by simp;omega
 have erbkd':(bkd=bkr)=False:=by simp;omega
 have ebkcbkd:(bkc=bkd)=False:=by simp;omega
 have ebkdbkc:(bkd=bkc)=False:=by simp;omega
 go_wp2_with fail;refine zA4 fun W7 hW=>?_;replace Bp:=sto Bp hW;replace Bq:=sto Bq hW;replace Bs:=sto Bs hW;replace Br:=sto Br hW;replace Bc:=sto Bc hW;replace Bd:=sto Bd hW;replace hw:=stw hw hW;clear Fc Fd;clear Fp Fq Fs Fr epbkc epbkc' epbkd epbkd' eqbkc eqbkc' eqbkd eqbkd' esbkc esbkc' esbkd esbkd' erbkc erbkc' erbkd erbkd' ebkcbkd ebkdbkc;clear hW;refine qK6 (c1 _) Bp Bq Bs Br Bc Bd hw fun w8 Bp Bq Bs Br Bc Bd hw=>?_;have Fp:=Bp.f;have Fq:=Bq.f;have Fs:=Bs.f;have Fr:=Br.f;have Fc:=Bc.f;have Fd:=Bd.f;go_wp2_with fail;clear Fp Fq Fs Fr Fc Fd;refine qK6 (c2 _) Bp Bq Bs Br Bc Bd hw fun w9 Bp Bq Bs Br Bc Bd hw=>?_;have Fp:=Bp.f;have Fq:=Bq.f;have Fs:=Bs.f;have Fr:=Br.f;have Fc:=Bc.f;have Fd:=Bd.f;go_wp2_with fail;clear Fp Fq Fs Fr Fc Fd;refine qC6 (cu _) Bp Bq Bs Br Bc Bd hw fun w10 Bp Bq Bs Br Bc Bd hw F_pqsrcd=>?_;go_wp2_with fail;clear F_pqsrcd;refine zA4 fun W11 hW=>?_;obtain ⟨bku,hbu⟩:∃ b,w10.heap.size=b:=⟨_,rfl⟩;rw [hbu];obtain ⟨lpu,lqu,lsu,lru,lcu,ldu,fu,Bu,Bp,Bq,Bs,Br,Bc,Bd,hw⟩:=qM6 hW hbu Bp Bq Bs Br Bc Bd hw;clear hW hbu;refine qC7 (cv _) Bp Bq Bs Br Bc Bd Bu hw fun w12 Bp Bq Bs Br Bc Bd Bu hw F_pqsrcdu=>?_;go_wp2_with fail;clear F_pqsrcdu;refine zA4 fun W13 hW=>?_;obtain ⟨bkv,hbv⟩:∃ b,w12.heap.size=b:=⟨_,rfl⟩;rw [hbv];obtain ⟨lpv,lqv,lsv,lrv,lcv,ldv,luv,fv,Bv,Bp,Bq,Bs,Br,Bc,Bd,Bu,hw⟩:=qM7 hW hbv Bp Bq Bs Br Bc Bd Bu hw;clear hW hbv;refine qC8 (ce _ (Bm.ee hw) (Hm.ee hw)) Bp Bq Bs Br Bc Bd Bu Bv hw fun w14 Bp Bq Bs Br Bc Bd Bu Bv hw F_pqsrcduv=>?_;go_wp2_with fail;clear F_pqsrcduv;refine zA4 fun W15 hW=>?_;obtain ⟨bko,hbo⟩:∃ b,w14.heap.size=b:=⟨_,rfl⟩;rw [hbo];obtain ⟨lpo,lqo,lso,lro,lco,ldo,luo,lvo,fo,Bo,Bp,Bq,Bs,Br,Bc,Bd,Bu,Bv,hw⟩:=qM8 hW hbo Bp Bq Bs Br Bc Bd Bu Bv hw;clear hW hbo;refine qK9 (cf _ (Bm.ee hw) (Hm.ee hw)) Bp Bq Bs Br Bc Bd Bu Bv Bo hw fun w16 Bp Bq Bs Br Bc Bd Bu Bv Bo hw=>?_;have Fp:=Bp.f;have Fq:=Bq.f;have Fs:=Bs.f;have Fr:=Br.f;have Fc:=Bc.f;have Fd:=Bd.f;have Fu:=Bu.f;have Fv:=Bv.f;have Fo:=Bo.f;go_wp2
 go_ret
 exact ⟨rfl,by have hl:=hw.size;go_grown⟩
theorem rflip_c2 (mb b:Nat) (E:Es) (p q:Pt) (hk:okW (p,q)) (S R:Tri3) (C D:Pt) (h0:getE E (p,q)=some S) (h1:getE E (q,p)=some R) (hC:apx S p q=C) (hD:apx R p q=D) (o1:decide (ori p D C≤0)=false) (o2:decide (ori D q C≤0)=false) (hc:okW (C,D)) (O:Tri3) (he:getE E (D,C)=none) (hf:getE E (C,D)=some O) (n1:teq O S=false) (n2:teq O R=false) (w:World) (Bm:Box w mb [.map (some b)] 90) (Hm:HoldsMap eW eT okW w b E):Calls prog 41 #[pt0 mb,p,q] w (Rt w (.int .i64 2)):=by
 have cl:=zAj mb b E p q hk;have cr:=zAj mb b E q p ⟨hk.2,hk.1⟩;rw [lftE_some h0] at cl;rw [lftE_some h1] at cr;clear h0 h1;have ca:=zC2 S p q;have cb:=zC2 R p q;have c1:=zA3 p D C;have c2:=zA3 D q C;rw [hC] at ca;rw [hD] at cb;have cu:=zB4 p D C;have cv:=zB4 D q C;generalize mk p D C=U at *
 generalize mk D q C=V at *
 have ce:=zAj mb b E D C ⟨hc.2,hc.1⟩;have cf:=zAj mb b E C D hc;rw [lftE_none he] at ce;rw [lftE_some hf] at cf;clear hC hD hc he hf
 go_enter func41,ntmps41
 go_wp2_with fail;refine qE2 fun W1 Bp Bq hw=>?_;refine qC2 (cl _ (Bm.ee hw) (Hm.ee hw)) Bp Bq hw fun w2 Bp Bq hw F_pq=>?_;go_wp2_with fail;clear F_pq;refine zA4 fun W3 hW=>?_;obtain ⟨bks,hbs⟩:∃ b,w2.heap.size=b:=⟨_,rfl⟩;rw [hbs];obtain ⟨lps,lqs,fs,Bs,Bp,Bq,hw⟩:=qM2 hW hbs Bp Bq hw;clear hW hbs;refine qC3 (cr _ (Bm.ee hw) (Hm.ee hw)) Bp Bq Bs hw fun w4 Bp Bq Bs hw F_pqs=>?_;go_wp2_with fail;clear F_pqs;refine zA1 fun W5 hW=>?_;obtain ⟨bkr,hbr⟩:∃ b,w4.heap.size=b:=⟨_,rfl⟩;rw [hbr];obtain ⟨lpr,lqr,lsr,fr,Br,Bp,Bq,Bs,hw⟩:=qM3 hW hbr Bp Bq Bs hw;clear hW hbr;have g_pqsr:=J4 Bp.cells Bq.cells Bs.cells Br.cells;refine zAq 10 [⟨8,11,54,[(),()]⟩,⟨9,12,54,[(),()]⟩] ?_ (by kernel_rfl) (by decide) (by decide) (by kernel_rfl) (by decide) (C:=fun w'=>∃ p:Regrown,w'=grow (redrawn W5 p.d) p.os) rgB ?_
 ·simp only [jBt];refine ⟨⟨_,rfl,rfl,rfl,rfl,fun ρ W=>by simp [execOp,go_sem]⟩,⟨_,rfl,rfl,rfl,rfl,fun ρ W=>by simp [execOp,go_sem]⟩,fun _ h=>(by cases h)⟩
 simp only [jBf,jCg,jAv,jD0,dropIdx,jC4,jC8,Nat.reduceBEq,Nat.reduceAdd,jCz,jD7,jD8,jBb,jDs,jDf];refine wkx ?_;intro w6 β hL;simp only [putD,jBy,jC0];have qc:=hL.box ⟨8,11,54,[(),()]⟩ (by simp) (by simp);simp only at qc;have qd:=hL.box ⟨9,12,54,[(),()]⟩ (by simp) (by simp);simp only at qd;have ncd:=hL.apart 11 (by simp) 12 (by simp) (by decide);have ndc:=hL.apart 12 (by simp) 11 (by simp) (by decide);have hb:=hL.below;have lp:=Bp.lt;have lq:=Bq.lt;have ls:=Bs.lt;have lr:=Br.lt;clear g_pqsr;replace Bp:=Bp.ee hb;replace Bq:=Bq.ee hb;replace Bs:=Bs.ee hb;replace Br:=Br.ee hb;have hw0:=hw.size;replace hw:=upB hw hb;clear hb hL;generalize β 11=bkc at *
 generalize β 12=bkd at *
 clear β;obtain ⟨fc,Bc⟩:=qc;obtain ⟨fd,Bd⟩:=qd;simp only [Act.put];have Fc:=Bc.f;have Fd:=Bd.f;have Fp:=Bp.f;have Fq:=Bq.f;have Fs:=Bs.f;have Fr:=Br.f;have epbkc:(w.heap.size=bkc)=False:=by simp;omega
 have epbkc':(bkc=w.heap.size)=False:=by simp;omega
 have epbkd:(w.heap.size=bkd)=False:=by simp;omega
 have epbkd':(bkd=w.heap.size)=False:=by simp;omega
 have eqbkc:(w.heap.size+1=bkc)=False:=by simp;omega
 have eqbkc':(bkc=w.heap.size+1)=False:=by simp;omega
 have eqbkd:(w.heap.size+1=bkd)=False:=by simp;omega
 have eqbkd':(bkd=w.heap.size+1)=False:=by simp;omega
 have esbkc:(bks=bkc)=False:=by simp;omega
 have esbkc':(bkc=bks)=False:=by simp;omega
 have esbkd:(bks=bkd)=False:=by simp;omega
 have esbkd':(bkd=bks)=False:=by simp;omega
 have erbkc:(bkr=bkc)=False:=by simp;omega
 have erbkc':(bkc=bkr)=False:=by simp;omega
 have erbkd:(bkr=bkd)=False:=by simp;omega
 have erbkd':(bkd=bkr)=False:=by simp;omega
 have ebkcbkd:(bkc=bkd)=False:=by simp;omega
 have ebkdbkc:(bkd=bkc)=False:=by simp;omega
 go_wp2_with fail;refine zA4 fun W7 hW=>?_;replace Bp:=sto Bp hW;replace Bq:=sto Bq hW;replace Bs:=sto Bs hW;replace Br:=sto Br hW;replace Bc:=sto Bc hW;replace Bd:=sto Bd hW;replace hw:=stw hw hW;clear Fc Fd;clear Fp Fq Fs Fr epbkc epbkc' epbkd epbkd' eqbkc eqbkc' eqbkd eqbkd' esbkc esbkc' esbkd esbkd' erbkc erbkc' erbkd erbkd' ebkcbkd ebkdbkc;clear hW;refine qK6 (c1 _) Bp Bq Bs Br Bc Bd hw fun w8 Bp Bq Bs Br Bc Bd hw=>?_;have Fp:=Bp.f;have Fq:=Bq.f;have Fs:=Bs.f;have Fr:=Br.f;have Fc:=Bc.f;have Fd:=Bd.f;go_wp2_with fail;clear Fp Fq Fs Fr Fc Fd;refine qK6 (c2 _) Bp Bq Bs Br Bc Bd hw fun w9 Bp Bq Bs Br Bc Bd hw=>?_;have Fp:=Bp.f;have Fq:=Bq.f;have Fs:=Bs.f;have Fr:=Br.f;have Fc:=Bc.f;have Fd:=Bd.f;go_wp2_with fail;clear Fp Fq Fs Fr Fc Fd;refine qC6 (cu _) Bp Bq Bs Br Bc Bd hw fun w10 Bp Bq Bs Br Bc Bd hw F_pqsrcd=>?_;go_wp2_with fail;clear F_pqsrcd;refine zA4 fun W11 hW=>?_;obtain ⟨bku,hbu⟩:∃ b,w10.heap.size=b:=⟨_,rfl⟩;rw [hbu];obtain ⟨lpu,lqu,lsu,lru,lcu,ldu,fu,Bu,Bp,Bq,Bs,Br,Bc,Bd,hw⟩:=qM6 hW hbu Bp Bq Bs Br Bc Bd hw;clear hW hbu;refine qC7 (cv _) Bp Bq Bs Br Bc Bd Bu hw fun w12 Bp Bq Bs Br Bc Bd Bu hw F_pqsrcdu=>?_;go_wp2_with fail;clear F_pqsrcdu;refine zA4 fun W13 hW=>?_;obtain ⟨bkv,hbv⟩:∃ b,w12.heap.size=b:=⟨_,rfl⟩;rw [hbv];obtain ⟨lpv,lqv,lsv,lrv,lcv,ldv,luv,fv,Bv,Bp,Bq,Bs,Br,Bc,Bd,Bu,hw⟩:=qM7 hW hbv Bp Bq Bs Br Bc Bd Bu hw;clear hW hbv;refine qC8 (ce _ (Bm.ee hw) (Hm.ee hw)) Bp Bq Bs Br Bc Bd Bu Bv hw fun w14 Bp Bq Bs Br Bc Bd Bu Bv hw F_pqsrcduv=>?_;go_wp2_with fail;clear F_pqsrcduv;refine zA4 fun W15 hW=>?_;obtain ⟨bko,hbo⟩:∃ b,w14.heap.size=b:=⟨_,rfl⟩;rw [hbo];obtain ⟨lpo,lqo,lso,lro,lco,ldo,luo,lvo,fo,Bo,Bp,Bq,Bs,Br,Bc,Bd,Bu,Bv,hw⟩:=qM8 hW hbo Bp Bq Bs Br Bc Bd Bu Bv hw;clear hW hbo;refine qK9 (cf _ (Bm.ee hw) (Hm.ee hw)) Bp Bq Bs Br Bc Bd Bu Bv Bo hw fun w16 Bp Bq Bs Br Bc Bd Bu Bv Bo hw=>?_;have Fp:=Bp.f;have Fq:=Bq.f;have Fs:=Bs.f;have Fr:=Br.f;have Fc:=Bc.f;have Fd:=Bd.f;have Fu:=Bu.f;have Fv:=Bv.f;have Fo:=Bo.f;go_wp2
 go_ret
 exact ⟨rfl,by have hl:=hw.size;go_grown⟩
end
section
open Go.RowKit
def flipD (E:Es) (p q:Pt):Int×Es:=
 match getE E (p,q),getE E (q,p) with
 | some S,some R=>
  if 0 < ori p (apx R p q) (apx S p q)∧0 < ori (apx R p q) q (apx S p q)∧getE E (apx R p q,apx S p q)=none∧getE E (apx S p q,apx R p q)=none
  then (0,flipE E S R (mk p (apx R p q) (apx S p q)) (mk (apx R p q) q (apx S p q))) else (2,E)
 | _,_=>(16,E)
theorem zBq {E:Es} {p q:Pt} (h:getE E (p,q)=none∨getE E (q,p)=none):flipD E p q=(16,E):=by
 unfold flipD;rcases h with h | h
 ·rw [h]
 ·rw [h];cases getE E (p,q) <;> rfl
theorem zCc {E:Es} {p q:Pt} {S R:Tri3} (h0:getE E (p,q)=some S) (h1:getE E (q,p)=some R):flipD E p q=if 0 < ori p (apx R p q) (apx S p q)∧0 < ori (apx R p q) q (apx S p q)∧getE E (apx R p q,apx S p q)=none∧getE E (apx S p q,apx R p q)=none then (0,flipE E S R (mk p (apx R p q) (apx S p q)) (mk (apx R p q) q (apx S p q))) else (2,E):=by
 unfold flipD;rw [h0,h1]
theorem zNv {T:Tri3} (h:valT T=true):0 < det T.A T.B T.C∧vld T.A=true∧vld T.B=true∧vld T.C=true:=by
 obtain ⟨va,vb,vc,hD⟩:=zFk h;exact ⟨hD,va,vb,vc⟩
theorem zDj {E:Es} {L:List Tri3} (g:Good E L) {p q:Pt} {S R:Tri3} (h0:getE E (p,q)=some S) (h1:getE E (q,p)=some R):(S∈L∧R∈L)∧(Cyc S p q (apx S p q)∧Cyc R q p (apx R p q))∧(0 < det p q (apx S p q)∧0 < det q p (apx R p q))∧(vld p=true∧vld q=true∧vld (apx S p q)=true∧vld (apx R p q)=true):=by
 obtain ⟨mS,wS⟩:=g.get.1 h0;obtain ⟨mR,wR⟩:=g.get.1 h1;obtain ⟨c,cS⟩:=zBd wS;obtain ⟨d,cR⟩:=zBd wR;obtain ⟨pS,v1,v2,v3⟩:=zNv (g.val S mS);obtain ⟨pR,v4,v5,v6⟩:=zNv (g.val R mR);have p1:0 < det p q c:=by rw [cS.det];exact pS
 have p2:0 < det q p d:=by rw [cR.det];exact pR
 obtain ⟨n1,n2,n3⟩:=zAb p1;obtain ⟨m1,m2,m3⟩:=zAb p2;have e1:apx S p q=c:=(zD6 cS n1 n2 n3).1;have e2:apx R p q=d:=(zD6 cR m1 m2 m3).2;rw [e1,e2];have vv:∀ {T:Tri3} {a b c:Pt},Cyc T a b c→vld T.A=true→vld T.B=true→vld T.C=true→vld a=true∧vld b=true∧vld c=true:=by
  intro T a b c h x y z;rcases h with ⟨rfl,rfl,rfl⟩ | ⟨rfl,rfl,rfl⟩ | ⟨rfl,rfl,rfl⟩
  ·exact ⟨x,y,z⟩
  ·exact ⟨y,z,x⟩
  ·exact ⟨z,x,y⟩
 obtain ⟨k1,k2,k3⟩:=vv cS v1 v2 v3;obtain ⟨_,_,k4⟩:=vv cR v4 v5 v6;exact ⟨⟨mS,mR⟩,⟨cS,cR⟩,⟨p1,p2⟩,k1,k2,k3,k4⟩
theorem zDf {a b c:Pt} (va:vld a=true) (vb:vld b=true) (vc:vld c=true):0 < ori a b c↔0 < det a b c:=by
 rw [ori_v va vb vc];have:=zA8 (det a b c);omega
theorem zCm {E:Es} {L:List Tri3} (g:Good E L) {p q:Pt} {S R:Tri3} {C D:Pt} (h0:getE E (p,q)=some S) (h1:getE E (q,p)=some R) (hC:apx S p q=C) (hD:apx R p q=D) (o1:0 < ori p D C) (o2:0 < ori D q C) (he:getE E (D,C)=none) (hf:getE E (C,D)=none):Flips E p q S R (mk p D C) (mk D q C) C D∧∃ M,L.Perm (S :: R :: M)∧Good (flipE E S R (mk p D C) (mk D q C)) (mk p D C :: mk D q C :: M):=by
 obtain ⟨⟨mS,mR⟩,⟨cS,cR⟩,⟨p1,p2⟩,vp,vq,vc,vd⟩:=zDj g h0 h1;rw [hC] at cS p1 vc;rw [hD] at cR p2 vd;have d1:=(zDf vp vd vc).1 o1;have d2:=(zDf vd vq vc).1 o2;obtain ⟨n1,n2,n3⟩:=zAb p1;obtain ⟨m1,m2,m3⟩:=zAb p2;obtain ⟨x1,x2,x3⟩:=zAb d1;obtain ⟨y1,y2,y3⟩:=zAb d2;have hne:S≠R:=by
  rintro rfl;have:=cS.ways.mem_iff.1 cR.way;simp only [jA1,jB6,jA6,jAw] at this;rcases this with ⟨k,_⟩ | ⟨_,k⟩ | ⟨k,_⟩
  ·exact n1 k.symm
  ·exact n3 k.symm
  ·exact n2 k
 obtain ⟨M,hM⟩:=zE7 mS mR hne;have nd:=(flat_perm hM).nodup_iff.1 g.once;rw [jA5,jA5,jAz] at nd;obtain ⟨_,nd2,nd1⟩:=nd;rw [jAz] at nd2;obtain ⟨_,_,nd2⟩:=nd2;have inM:∀ w,w∈M.flatMap ways→w ∉ ways S∧w ∉ ways R∧w∈L.flatMap ways:=fun w hw=>
  ⟨fun k=>nd1 w k w (jBa _ hw) rfl,fun k=>nd2 w k w hw rfl,(flat_perm hM).mem_iff.2 (by rw [jA5,jA5];simp [hw])⟩
 obtain ⟨cU,vU⟩:=zB2 vp vd vc d1;obtain ⟨cV,vV⟩:=zB2 vd vq vc d2;have a1:=(Good.take (E:=E) (T:=S) (M:=R :: M) (g.order hM)).2;have a2:=(Good.take (E:=takeT E S) (T:=R) (M:=M) a1).2;obtain ⟨f1,g1⟩:=Good.put (T:=mk p D C) a2 vU (fun w hw k=>by
  obtain ⟨k1,k2,k3⟩:=inM w k;have:=cU.ways.mem_iff.1 hw;simp only [jA1,jA6,jAw] at this;rcases this with rfl | rfl | rfl
  ·exact k2 cR.turn.way
  ·exact g.get_none.1 he k3
  ·exact k1 cS.turn.turn.way)
 obtain ⟨f2,g2⟩:=Good.put (T:=mk D q C) g1 vV (fun w hw k=>by
  have h:=cV.ways.mem_iff.1 hw;simp only [jA1,jA6,jAw] at h;rw [jA5,jAg] at k;rcases k with k | k
  ·have k:=cU.ways.mem_iff.1 k;simp only [jA1,jA6,jAw] at k;rcases h with rfl | rfl | rfl
   ·simp only [jB6] at k;rcases k with ⟨k,_⟩ | ⟨_,k⟩ | ⟨k,_⟩
    ·exact x1 k.symm
    ·exact y2 k
    ·exact x2 k
   ·simp only [jB6] at k;rcases k with ⟨_,k⟩ | ⟨k,_⟩ | ⟨_,k⟩
    ·exact x2 k.symm
    ·exact y1 k.symm
    ·exact x3 k
   ·simp only [jB6] at k;rcases k with ⟨k,_⟩ | ⟨k,_⟩ | ⟨_,k⟩
    ·exact x3 k
    ·exact x2 k.symm
    ·exact x1 k.symm
  ·obtain ⟨k1,k2,k3⟩:=inM w k;rcases h with rfl | rfl | rfl
   ·exact k2 cR.turn.turn.way
   ·exact k1 cS.turn.way
   ·exact g.get_none.1 hf k3)
 refine ⟨⟨h0,h1,hC,hD,jCd (by omega),jCd (by omega),rfl,rfl,he,hf,⟨zBj vc,zBj vd⟩,zB7 (g.val _ mS),zB7 (g.val _ mR),zB7 vU,zB7 vV,zCb f1,zCb f2⟩,M,hM,g2.order (List.Perm.swap _ _ _)⟩
theorem zGi {E:Es} {L:List Tri3} (g:Good E L) {p q:Pt} {S R O:Tri3} {C D:Pt} (h0:getE E (p,q)=some S) (h1:getE E (q,p)=some R) (hC:apx S p q=C) (hD:apx R p q=D) (hdc:D≠C) (ho:(D,C)∈ways O∨(C,D)∈ways O):teq O S=false∧teq O R=false:=by
 obtain ⟨_,⟨cS,cR⟩,⟨p1,p2⟩,_⟩:=zDj g h0 h1;rw [hC] at cS p1;rw [hD] at cR p2;obtain ⟨n1,n2,n3⟩:=zAb p1;obtain ⟨m1,m2,m3⟩:=zAb p2;have tf:∀ {X Y:Tri3},X≠Y→teq X Y=false:=fun {X Y} h=>by
  rw [←jBl];intro k;exact h (zE8.1 k)
 constructor
 ·refine tf ?_;rintro rfl;rcases ho with ho | ho
  ·have:=cS.ways.mem_iff.1 ho;simp only [jA1,jB6,jA6,jAw] at this;rcases this with ⟨k,_⟩ | ⟨k,_⟩ | ⟨k,_⟩
   ·exact m2 k.symm
   ·exact m3 k
   ·exact hdc k
  ·have:=cS.ways.mem_iff.1 ho;simp only [jA1,jB6,jA6,jAw] at this;rcases this with ⟨k,_⟩ | ⟨k,_⟩ | ⟨_,k⟩
   ·exact n3 k
   ·exact n2 k.symm
   ·exact m2 k.symm
 ·refine tf ?_;rintro rfl;rcases ho with ho | ho
  ·have:=cR.ways.mem_iff.1 ho;simp only [jA1,jB6,jA6,jAw] at this;rcases this with ⟨k,_⟩ | ⟨k,_⟩ | ⟨_,k⟩
   ·exact m3 k
   ·exact m2 k.symm
   ·exact n2 k.symm
  ·have:=cR.ways.mem_iff.1 ho;simp only [jA1,jB6,jA6,jAw] at this;rcases this with ⟨k,_⟩ | ⟨k,_⟩ | ⟨k,_⟩
   ·exact n2 k.symm
   ·exact n3 k
   ·exact hdc k.symm
theorem zKd (mb b:Nat) (E:Es) (L:List Tri3) (g:Good E L) (p q:Pt) (hk:okW (p,q)) (w:World) (Bm:Box w mb [.map (some b)] 90) (Hm:HoldsMap eW eT okW w b E):Calls prog 41 #[pt0 mb,p,q] w fun e w'=>e=.returned (.int .i64 (flipD E p q).1)∧w.grownBy w' (some b)∧HoldsMap eW eT okW w' b (flipD E p q).2:=by
 have no:∀ {r:Int} {e:Ending} {w':World},flipD E p q=(r,E)→e=.returned (.int .i64 r)∧Below w w w'→e=.returned (.int .i64 (flipD E p q).1)∧w.grownBy w' (some b)∧HoldsMap eW eT okW w' b (flipD E p q).2:=fun h ⟨k1,k2⟩=>by
  rw [h];exact ⟨k1,zA6 k2 _,Hm.ee k2⟩
 cases h0:getE E (p,q) with
 | none=>exact (rflip_n0 mb b E p q hk h0 w Bm Hm).mono fun e w' h=>no (zBq (.inl h0)) h
 | some S=>
  cases h1:getE E (q,p) with
  | none=>exact (rflip_n1 mb b E p q hk S h0 h1 w Bm Hm).mono fun e w' h=>no (zBq (.inr h1)) h
  | some R=>
   obtain ⟨_,_,_,vp,vq,vc,vd⟩:=zDj g h0 h1;have hs:=zCc h0 h1;obtain ⟨C,hC⟩:∃ C,apx S p q=C:=⟨_,rfl⟩;obtain ⟨D,hD⟩:∃ D,apx R p q=D:=⟨_,rfl⟩;rw [hC] at hs vc;rw [hD] at hs vd;have hc:okW (C,D):=⟨zBj vc,zBj vd⟩;by_cases o1:0 < ori p D C
   ·by_cases o2:0 < ori D q C
    ·have hdc : D ≠ C := fun e => by rw [e] at o1; have := (zDf vp vc vc).1 o1; have z : det p C C = 0 := by unfold det; grind
                                     omega
     cases he:getE E (D,C) with
     | some O=>
      obtain ⟨t1,t2⟩:=zGi g h0 h1 hC hD hdc (.inl (g.get.1 he).2);refine (rflip_c1 mb b E p q hk S R C D h0 h1 hC hD (jCd (by omega)) (jCd (by omega)) hc O he t1 t2 w Bm Hm).mono fun e w' h=>no ?_ h;rw [hs,jA0 (by rw [he];simp)]
     | none=>
      cases hf:getE E (C,D) with
      | some O=>
       obtain ⟨t1,t2⟩:=zGi g h0 h1 hC hD hdc (.inr (g.get.1 hf).2);refine (rflip_c2 mb b E p q hk S R C D h0 h1 hC hD (jCd (by omega)) (jCd (by omega)) hc O he hf t1 t2 w Bm Hm).mono fun e w' h=>no ?_ h;rw [hs,jA0 (by rw [hf];simp)]
      | none=>
       obtain ⟨fl,_⟩:=zCm g h0 h1 hC hD o1 o2 he hf;rw [hs,jAc ⟨o1,o2,he,hf⟩];exact zM1 mb b E p q hk S R _ _ C D fl.h0 fl.h1 fl.hC fl.hD fl.o1 fl.o2 fl.hU fl.hV fl.he fl.hf fl.hc fl.hS fl.hR fl.hu fl.hv fl.f1 fl.f2 w Bm Hm
    ·refine (rflip_o2 mb b E p q hk S R C D h0 h1 hC hD (jCd (by omega)) (jCo (by omega)) w Bm Hm).mono fun e w' h=>no ?_ h;rw [hs,jA0 (fun k=>o2 k.2.1)]
   ·refine (rflip_o1 mb b E p q hk S R C D h0 h1 hC hD (jCo (by omega)) w Bm Hm).mono fun e w' h=>no ?_ h;rw [hs,jA0 (fun k=>o1 k.1)]
theorem good_flipD {E:Es} {L:List Tri3} (g:Good E L) (p q:Pt):∃ L',Good (flipD E p q).2 L':=by
 cases h0:getE E (p,q) with
 | none=>rw [zBq (.inl h0)];exact ⟨L,g⟩
 | some S=>
  cases h1:getE E (q,p) with
  | none=>rw [zBq (.inr h1)];exact ⟨L,g⟩
  | some R=>
   rw [zCc h0 h1];split
   ·rename_i k
    obtain ⟨_,M,_,g'⟩:=zCm g h0 h1 rfl rfl k.1 k.2.1 k.2.2.1 k.2.2.2;exact ⟨_,g'⟩
   ·exact ⟨L,g⟩
end
end Go.Proofs.YtogffkimgmlilaaGreat
